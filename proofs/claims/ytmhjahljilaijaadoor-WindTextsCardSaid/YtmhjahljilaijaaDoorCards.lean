/-
  DERIVED. GIVEN WITH THE SEED: THE CARDS: each row of YtmhjahljilaijaaDoorRows.lean that lists a variable, with what it lists TIED to the program's text (the seventh form; the later family's looks); each row that meets fmt, with fmt's text TOLD by the authors' own Lean function (tested against real Go, not proved from fmt's source: count such statements apart). THE CARD IS WHAT COUNTS. Prove the row's statement (the work); the ties are given (YtmhjahljilaijaaDoorTie.lean); close each card by the builder's one call (the guide's Derived/Test/ToyasCard.lean, 'card_holds'). Laid BY PROGRAM, IN A SANDBOX (cutbox-door.mjs). By AI agents, Wed Nov 11 2026. No macro, syntax, notation, axiom, sorry.
-/
import Derived.Test.YtmhjahljilaijaaDoorRows
import GoSem.ClaimSeven
namespace Go.Proofs.YtmhjahljilaijaaDoor
namespace Rows

/-- THE TIED CARD OF 'steeplejacklaw08.WindTexts'. -/
def windTextsCard : Claim7 := { stood := { row := windTextsRow, standIns := [], harness := (true, "5279eef67cc10aeed9f524d5581839576a08ba6fb1a4534f32a57aded1a402f7"), looks := true }, kinds := [], alts := [], laidByText := true, laidKinds := [.data, .data, .data, .data, .sentinel, .sentinel, .pinned], laidTests := true, laidLooks := .later }
def WindTextsCardSaid : Prop := Claim7.holds Tryd.pinned (.plain (OpenSpec.ofChange windTextsSpec)) windTextsCard

/-- THE SECOND FORM's CARD OF 'steeplejacklaw08.WindTexts'. -/
def windTextsUptoCard : Claim7 := { stood := { row := windTextsUptoRow, standIns := [], harness := (true, "5279eef67cc10aeed9f524d5581839576a08ba6fb1a4534f32a57aded1a402f7"), looks := true }, kinds := [], alts := [], laidByText := true, laidKinds := [.data, .data, .data, .data, .sentinel, .sentinel, .pinned], laidTests := true, laidLooks := .later }
def WindTextsUptoCardSaid : Prop := Claim7.holds Tryd.pinned (.plain (OpenSpec.upto windTextsSpec)) windTextsUptoCard
end Rows
end Go.Proofs.YtmhjahljilaijaaDoor
