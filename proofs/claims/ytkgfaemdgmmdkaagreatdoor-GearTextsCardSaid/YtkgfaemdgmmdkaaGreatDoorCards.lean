/-
  DERIVED. GIVEN WITH THE SEED: THE CARDS: each row of YtkgfaemdgmmdkaaGreatDoorRows.lean that lists a variable, with what it lists TIED to the program's text (the seventh form; the later family's looks); each row that meets fmt, with fmt's text TOLD by the authors' own Lean function (tested against real Go, not proved from fmt's source: count such statements apart). THE CARD IS WHAT COUNTS. Prove the row's statement (the work); the ties are given (YtkgfaemdgmmdkaaGreatDoorTie.lean); close each card by the builder's one call (the guide's Derived/Test/ToyasCard.lean, 'card_holds'). Laid BY PROGRAM, IN A SANDBOX (cutbox-door.mjs). By AI agents, Wed Nov 11 2026. No macro, syntax, notation, axiom, sorry.
-/
import Derived.Test.YtkgfaemdgmmdkaaGreatDoorRows
import GoSem.ClaimSeven
namespace Go.Proofs.YtkgfaemdgmmdkaaGreatDoor
namespace Rows

/-- THE TIED CARD OF 'steeplejacklaw07.GearTexts'. -/
def gearTextsCard : Claim7 := { stood := { row := gearTextsRow, standIns := [], harness := (true, "1a802e6c82f89c08decebe1a4b0276ba00a4ba5a3eabc060dc8a0fa0f2d3bbc7"), looks := true }, kinds := [], alts := [], laidByText := true, laidKinds := [.data, .data, .data, .data, .sentinel, .sentinel, .pinned], laidTests := true, laidLooks := .later }
def GearTextsCardSaid : Prop := Claim7.holds Tryz.pinned (.plain (OpenSpec.ofChange gearTextsSpec)) gearTextsCard

/-- THE SECOND FORM's CARD OF 'steeplejacklaw07.GearTexts'. -/
def gearTextsUptoCard : Claim7 := { stood := { row := gearTextsUptoRow, standIns := [], harness := (true, "1a802e6c82f89c08decebe1a4b0276ba00a4ba5a3eabc060dc8a0fa0f2d3bbc7"), looks := true }, kinds := [], alts := [], laidByText := true, laidKinds := [.data, .data, .data, .data, .sentinel, .sentinel, .pinned], laidTests := true, laidLooks := .later }
def GearTextsUptoCardSaid : Prop := Claim7.holds Tryz.pinned (.plain (OpenSpec.upto gearTextsSpec)) gearTextsUptoCard
end Rows
end Go.Proofs.YtkgfaemdgmmdkaaGreatDoor
