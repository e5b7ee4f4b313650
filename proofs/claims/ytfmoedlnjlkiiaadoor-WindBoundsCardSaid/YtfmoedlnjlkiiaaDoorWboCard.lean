/- For every rule and every two lists of numbers WindBounds returns true and leaves its arguments as they were: Bounds answers as the reference does, and with whatever gusts the missing minutes are filled, the minutes in which work goes lie within. Conditions: none beyond the row. The statement's card: the library's tables are tied to the program's text. -/
import Derived.Test.YtfmoedlnjlkiiaaDoorCards
import Derived.Test.YtfmoedlnjlkiiaaDoorTie
import Derived.Test.YtfmoedlnjlkiiaaDoorWboRow
import Derived.SevenTiedAt
namespace Go.Proofs.YtfmoedlnjlkiiaaDoor
open Go

theorem windBounds_card : Rows.WindBoundsCardSaid :=
  Claim7.holds_tied_plain_at .later [] [.data, .data, .data] true (true, "5ca8c383cc227cfedb8d7386cb764483c57b0a3fc9ceb66e568133b988041251") false
    windBounds_holds (fun _ h => by cases h) (by kernel_rfl) (fun _ h => by cases h) windBounds_row_tie rfl ⟨rfl, rfl⟩ (by kernel_rfl) rfl
    (fun f fn hf hfn => by
      obtain rfl : f = 6 := Option.some.inj ((show Tryd.prog.funcNamed "steeplejack/steeplejacklaw08.WindBounds" = some 6 by kernel_rfl).symm.trans hf) |>.symm
      obtain rfl : fn = Tryd.f6 := (Option.some.inj (Tryd.func6.symm.trans hfn)).symm
      exact ⟨by kernel_rfl, fun j t ht => by
        rw [Tryd.params6] at ht
        have hm : t ∈ [23, 24, 24] := by simpa using Array.mem_of_getElem? ht
        have hall : ([23, 24, 24].all fun u => !Tryd.prog.wantsStandIn u) = true := by kernel_rfl
        exact (show Tryd.prog.wantsStandIn t = false by simpa using List.all_eq_true.1 hall t hm)⟩)
    (by kernel_rfl)
end Go.Proofs.YtfmoedlnjlkiiaaDoor
