/-
  DERIVED. GIVEN WITH THE SEED: THE CARDS: each row of YteojmhfocdlnoaaDoorRows.lean that lists a variable, with what it lists TIED to the program's text (the seventh form; the later family's looks); each row that meets fmt, with fmt's text TOLD by the authors' own Lean function (tested against real Go, not proved from fmt's source: count such statements apart). THE CARD IS WHAT COUNTS. Prove the row's statement (the work); the ties are given (YteojmhfocdlnoaaDoorTie.lean); close each card by the builder's one call (the guide's Derived/Test/ToyasCard.lean, 'card_holds'). Laid BY PROGRAM, IN A SANDBOX (cutbox-door.mjs). By AI agents, Wed Nov 11 2026. No macro, syntax, notation, axiom, sorry.
-/
import Derived.Test.YteojmhfocdlnoaaDoorRows
import GoSem.ClaimSeven
namespace Go.Proofs.YteojmhfocdlnoaaDoor
namespace Rows

/-- THE TIED CARD OF 'steeplejacktop.TopRigs'. -/
def topRigsCard : Claim7 := { stood := { row := topRigsRow, standIns := [], harness := (true, "2b7050201f509d0b9b9221b15b0b827e86262b9de5a7f435d126fae804e5d491"), looks := false }, kinds := [], alts := [], laidByText := true, laidKinds := [.data, .pinned], laidTests := true, laidLooks := .later }
def TopRigsCardSaid : Prop := Claim7.holds Tryd.pinned (.plain (OpenSpec.ofChange topRigsSpec)) topRigsCard

/-- THE SECOND FORM's CARD OF 'steeplejacktop.TopRigs'. -/
def topRigsUptoCard : Claim7 := { stood := { row := topRigsUptoRow, standIns := [], harness := (true, "2b7050201f509d0b9b9221b15b0b827e86262b9de5a7f435d126fae804e5d491"), looks := false }, kinds := [], alts := [], laidByText := true, laidKinds := [.data, .pinned], laidTests := true, laidLooks := .later }
def TopRigsUptoCardSaid : Prop := Claim7.holds Tryd.pinned (.plain (OpenSpec.upto topRigsSpec)) topRigsUptoCard
end Rows
end Go.Proofs.YteojmhfocdlnoaaDoor
