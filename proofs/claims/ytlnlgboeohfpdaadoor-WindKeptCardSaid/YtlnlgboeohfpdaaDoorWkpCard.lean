/- For every forecast, gusts and two numbers WindKept returns true and leaves its arguments as they were: Kept answers as the reference does, and in kept gusts no gust of a sure window is the mark or more. Conditions: none beyond the row. The statement's card: the library's tables are tied to the program's text. -/
import Derived.Test.YtlnlgboeohfpdaaDoorCards
import Derived.Test.YtlnlgboeohfpdaaDoorTie
import Derived.Test.YtlnlgboeohfpdaaDoorWkpRow
import Derived.SevenTiedAt
namespace Go.Proofs.YtlnlgboeohfpdaaDoor
open Go

theorem windKept_card : Rows.WindKeptCardSaid :=
  Claim7.holds_tied_plain_at .later [] [.data, .data, .data] true (true, "5ca8c383cc227cfedb8d7386cb764483c57b0a3fc9ceb66e568133b988041251") false
    windKept_holds (fun _ h => by cases h) (by kernel_rfl) (fun _ h => by cases h) windKept_row_tie rfl ⟨rfl, rfl⟩ (by kernel_rfl) rfl
    (fun f fn hf hfn => by
      obtain rfl : f = 9 := Option.some.inj ((show Tryd.prog.funcNamed "steeplejack/steeplejacklaw08.WindKept" = some 9 by kernel_rfl).symm.trans hf) |>.symm
      obtain rfl : fn = Tryd.f9 := (Option.some.inj (Tryd.func9.symm.trans hfn)).symm
      exact ⟨by kernel_rfl, fun j t ht => by
        rw [Tryd.params9] at ht
        have hm : t ∈ [56, 24, 3, 3] := by simpa using Array.mem_of_getElem? ht
        have hall : ([56, 24, 3, 3].all fun u => !Tryd.prog.wantsStandIn u) = true := by kernel_rfl
        exact (show Tryd.prog.wantsStandIn t = false by simpa using List.all_eq_true.1 hall t hm)⟩)
    (by kernel_rfl)
end Go.Proofs.YtlnlgboeohfpdaaDoor
