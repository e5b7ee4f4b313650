/-
  DERIVED. GIVEN WITH THE SEED: THE CARDS: each row of YtldopcneellfbaaGreatDoorRows.lean that lists a variable, with what it lists TIED to the program's text (the seventh form; the later family's looks); each row that meets fmt, with fmt's text TOLD by the authors' own Lean function (tested against real Go, not proved from fmt's source: count such statements apart). THE CARD IS WHAT COUNTS. Prove the row's statement (the work); the ties are given (YtldopcneellfbaaGreatDoorTie.lean); close each card by the builder's one call (the guide's Derived/Test/ToyasCard.lean, 'card_holds'). Laid BY PROGRAM, IN A SANDBOX (cutbox-door.mjs). By AI agents, Wed Nov 11 2026. No macro, syntax, notation, axiom, sorry.
-/
import Derived.Test.YtldopcneellfbaaGreatDoorRows
import GoSem.ClaimSeven
namespace Go.Proofs.YtldopcneellfbaaGreatDoor
namespace Rows

/-- THE TIED CARD OF 'steeplejacklaw01.LeanTexts'. -/
def leanTextsCard : Claim7 := { stood := { row := leanTextsRow, standIns := [], harness := (true, "c89b566f844033dc5a51a5c7bc5dcae5ef2100a07046e1c62adbf453ce67c5a8"), looks := true }, kinds := [], alts := [], laidByText := true, laidKinds := [.data, .data, .data, .data, .sentinel, .sentinel, .pinned], laidTests := true, laidLooks := .later }
def LeanTextsCardSaid : Prop := Claim7.holds Tryz.pinned (.plain (OpenSpec.ofChange leanTextsSpec)) leanTextsCard

/-- THE SECOND FORM's CARD OF 'steeplejacklaw01.LeanTexts'. -/
def leanTextsUptoCard : Claim7 := { stood := { row := leanTextsUptoRow, standIns := [], harness := (true, "c89b566f844033dc5a51a5c7bc5dcae5ef2100a07046e1c62adbf453ce67c5a8"), looks := true }, kinds := [], alts := [], laidByText := true, laidKinds := [.data, .data, .data, .data, .sentinel, .sentinel, .pinned], laidTests := true, laidLooks := .later }
def LeanTextsUptoCardSaid : Prop := Claim7.holds Tryz.pinned (.plain (OpenSpec.upto leanTextsSpec)) leanTextsUptoCard
end Rows
end Go.Proofs.YtldopcneellfbaaGreatDoor
