/-
  DERIVED. GIVEN WITH THE SEED: THE CARDS: each row of YtfmoedlnjlkiiaaDoorRows.lean that lists a variable, with what it lists TIED to the program's text (the seventh form; the later family's looks); each row that meets fmt, with fmt's text TOLD by the authors' own Lean function (tested against real Go, not proved from fmt's source: count such statements apart). THE CARD IS WHAT COUNTS. Prove the row's statement (the work); the ties are given (YtfmoedlnjlkiiaaDoorTie.lean); close each card by the builder's one call (the guide's Derived/Test/ToyasCard.lean, 'card_holds'). Laid BY PROGRAM, IN A SANDBOX (cutbox-door.mjs). By AI agents, Wed Nov 11 2026. No macro, syntax, notation, axiom, sorry.
-/
import Derived.Test.YtfmoedlnjlkiiaaDoorRows
import GoSem.ClaimSeven
namespace Go.Proofs.YtfmoedlnjlkiiaaDoor
namespace Rows

/-- THE TIED CARD OF 'steeplejacklaw08.WindStops'. -/
def windStopsCard : Claim7 := { stood := { row := windStopsRow, standIns := [], harness := (true, "5ca8c383cc227cfedb8d7386cb764483c57b0a3fc9ceb66e568133b988041251"), looks := false }, kinds := [], alts := [], laidByText := true, laidKinds := [.data, .data, .data], laidTests := true, laidLooks := .later }
def WindStopsCardSaid : Prop := Claim7.holds Tryd.pinned (.plain (OpenSpec.ofChange windStopsSpec)) windStopsCard

/-- THE TIED CARD OF 'steeplejacklaw08.WindCovers'. -/
def windCoversCard : Claim7 := { stood := { row := windCoversRow, standIns := [], harness := (true, "5ca8c383cc227cfedb8d7386cb764483c57b0a3fc9ceb66e568133b988041251"), looks := false }, kinds := [], alts := [], laidByText := true, laidKinds := [.data, .data, .data], laidTests := true, laidLooks := .later }
def WindCoversCardSaid : Prop := Claim7.holds Tryd.pinned (.plain (OpenSpec.ofChange windCoversSpec)) windCoversCard

/-- THE TIED CARD OF 'steeplejacklaw08.WindStricter'. -/
def windStricterCard : Claim7 := { stood := { row := windStricterRow, standIns := [], harness := (true, "5ca8c383cc227cfedb8d7386cb764483c57b0a3fc9ceb66e568133b988041251"), looks := false }, kinds := [], alts := [], laidByText := true, laidKinds := [.data, .data, .data], laidTests := true, laidLooks := .later }
def WindStricterCardSaid : Prop := Claim7.holds Tryd.pinned (.plain (OpenSpec.ofChange windStricterSpec)) windStricterCard

/-- THE TIED CARD OF 'steeplejacklaw08.WindBounds'. -/
def windBoundsCard : Claim7 := { stood := { row := windBoundsRow, standIns := [], harness := (true, "5ca8c383cc227cfedb8d7386cb764483c57b0a3fc9ceb66e568133b988041251"), looks := false }, kinds := [], alts := [], laidByText := true, laidKinds := [.data, .data, .data], laidTests := true, laidLooks := .later }
def WindBoundsCardSaid : Prop := Claim7.holds Tryd.pinned (.plain (OpenSpec.ofChange windBoundsSpec)) windBoundsCard

/-- THE TIED CARD OF 'steeplejacklaw08.WindLists'. -/
def windListsCard : Claim7 := { stood := { row := windListsRow, standIns := [], harness := (true, "5ca8c383cc227cfedb8d7386cb764483c57b0a3fc9ceb66e568133b988041251"), looks := false }, kinds := [], alts := [], laidByText := true, laidKinds := [.data, .data, .data], laidTests := true, laidLooks := .later }
def WindListsCardSaid : Prop := Claim7.holds Tryd.pinned (.plain (OpenSpec.ofChange windListsSpec)) windListsCard

/-- THE TIED CARD OF 'steeplejacklaw08.WindWindows'. -/
def windWindowsCard : Claim7 := { stood := { row := windWindowsRow, standIns := [], harness := (true, "5ca8c383cc227cfedb8d7386cb764483c57b0a3fc9ceb66e568133b988041251"), looks := false }, kinds := [], alts := [], laidByText := true, laidKinds := [.data, .data, .data], laidTests := true, laidLooks := .later }
def WindWindowsCardSaid : Prop := Claim7.holds Tryd.pinned (.plain (OpenSpec.ofChange windWindowsSpec)) windWindowsCard

/-- THE TIED CARD OF 'steeplejacklaw08.WindKept'. -/
def windKeptCard : Claim7 := { stood := { row := windKeptRow, standIns := [], harness := (true, "5ca8c383cc227cfedb8d7386cb764483c57b0a3fc9ceb66e568133b988041251"), looks := false }, kinds := [], alts := [], laidByText := true, laidKinds := [.data, .data, .data], laidTests := true, laidLooks := .later }
def WindKeptCardSaid : Prop := Claim7.holds Tryd.pinned (.plain (OpenSpec.ofChange windKeptSpec)) windKeptCard

/-- THE SECOND FORM's CARD OF 'steeplejacklaw08.WindStops'. -/
def windStopsUptoCard : Claim7 := { stood := { row := windStopsUptoRow, standIns := [], harness := (true, "5ca8c383cc227cfedb8d7386cb764483c57b0a3fc9ceb66e568133b988041251"), looks := false }, kinds := [], alts := [], laidByText := true, laidKinds := [.data, .data, .data], laidTests := true, laidLooks := .later }
def WindStopsUptoCardSaid : Prop := Claim7.holds Tryd.pinned (.plain (OpenSpec.upto windStopsSpec)) windStopsUptoCard

/-- THE SECOND FORM's CARD OF 'steeplejacklaw08.WindCovers'. -/
def windCoversUptoCard : Claim7 := { stood := { row := windCoversUptoRow, standIns := [], harness := (true, "5ca8c383cc227cfedb8d7386cb764483c57b0a3fc9ceb66e568133b988041251"), looks := false }, kinds := [], alts := [], laidByText := true, laidKinds := [.data, .data, .data], laidTests := true, laidLooks := .later }
def WindCoversUptoCardSaid : Prop := Claim7.holds Tryd.pinned (.plain (OpenSpec.upto windCoversSpec)) windCoversUptoCard

/-- THE SECOND FORM's CARD OF 'steeplejacklaw08.WindStricter'. -/
def windStricterUptoCard : Claim7 := { stood := { row := windStricterUptoRow, standIns := [], harness := (true, "5ca8c383cc227cfedb8d7386cb764483c57b0a3fc9ceb66e568133b988041251"), looks := false }, kinds := [], alts := [], laidByText := true, laidKinds := [.data, .data, .data], laidTests := true, laidLooks := .later }
def WindStricterUptoCardSaid : Prop := Claim7.holds Tryd.pinned (.plain (OpenSpec.upto windStricterSpec)) windStricterUptoCard

/-- THE SECOND FORM's CARD OF 'steeplejacklaw08.WindBounds'. -/
def windBoundsUptoCard : Claim7 := { stood := { row := windBoundsUptoRow, standIns := [], harness := (true, "5ca8c383cc227cfedb8d7386cb764483c57b0a3fc9ceb66e568133b988041251"), looks := false }, kinds := [], alts := [], laidByText := true, laidKinds := [.data, .data, .data], laidTests := true, laidLooks := .later }
def WindBoundsUptoCardSaid : Prop := Claim7.holds Tryd.pinned (.plain (OpenSpec.upto windBoundsSpec)) windBoundsUptoCard

/-- THE SECOND FORM's CARD OF 'steeplejacklaw08.WindLists'. -/
def windListsUptoCard : Claim7 := { stood := { row := windListsUptoRow, standIns := [], harness := (true, "5ca8c383cc227cfedb8d7386cb764483c57b0a3fc9ceb66e568133b988041251"), looks := false }, kinds := [], alts := [], laidByText := true, laidKinds := [.data, .data, .data], laidTests := true, laidLooks := .later }
def WindListsUptoCardSaid : Prop := Claim7.holds Tryd.pinned (.plain (OpenSpec.upto windListsSpec)) windListsUptoCard

/-- THE SECOND FORM's CARD OF 'steeplejacklaw08.WindWindows'. -/
def windWindowsUptoCard : Claim7 := { stood := { row := windWindowsUptoRow, standIns := [], harness := (true, "5ca8c383cc227cfedb8d7386cb764483c57b0a3fc9ceb66e568133b988041251"), looks := false }, kinds := [], alts := [], laidByText := true, laidKinds := [.data, .data, .data], laidTests := true, laidLooks := .later }
def WindWindowsUptoCardSaid : Prop := Claim7.holds Tryd.pinned (.plain (OpenSpec.upto windWindowsSpec)) windWindowsUptoCard

/-- THE SECOND FORM's CARD OF 'steeplejacklaw08.WindKept'. -/
def windKeptUptoCard : Claim7 := { stood := { row := windKeptUptoRow, standIns := [], harness := (true, "5ca8c383cc227cfedb8d7386cb764483c57b0a3fc9ceb66e568133b988041251"), looks := false }, kinds := [], alts := [], laidByText := true, laidKinds := [.data, .data, .data], laidTests := true, laidLooks := .later }
def WindKeptUptoCardSaid : Prop := Claim7.holds Tryd.pinned (.plain (OpenSpec.upto windKeptSpec)) windKeptUptoCard
end Rows
end Go.Proofs.YtfmoedlnjlkiiaaDoor
