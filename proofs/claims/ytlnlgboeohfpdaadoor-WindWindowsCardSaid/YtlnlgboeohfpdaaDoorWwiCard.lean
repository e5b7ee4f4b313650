/- For every forecast and four numbers WindWindows returns true and leaves its arguments as they were: ValidCasts, Sure, Maybe and Merged answer as the reference does, a sure window may be, and a merged forecast has the same windows. Conditions: none beyond the row. The statement's card: the library's tables are tied to the program's text. -/
import Derived.Test.YtlnlgboeohfpdaaDoorCards
import Derived.Test.YtlnlgboeohfpdaaDoorTie
import Derived.Test.YtlnlgboeohfpdaaDoorWwiRow
import Derived.SevenTiedAt
namespace Go.Proofs.YtlnlgboeohfpdaaDoor
open Go

theorem windWindows_card : Rows.WindWindowsCardSaid :=
  Claim7.holds_tied_plain_at .later [] [.data, .data, .data] true (true, "5ca8c383cc227cfedb8d7386cb764483c57b0a3fc9ceb66e568133b988041251") false
    windWindows_holds (fun _ h => by cases h) (by kernel_rfl) (fun _ h => by cases h) windWindows_row_tie rfl ⟨rfl, rfl⟩ (by kernel_rfl) rfl
    (fun f fn hf hfn => by
      obtain rfl : f = 8 := Option.some.inj ((show Tryd.prog.funcNamed "steeplejack/steeplejacklaw08.WindWindows" = some 8 by kernel_rfl).symm.trans hf) |>.symm
      obtain rfl : fn = Tryd.f8 := (Option.some.inj (Tryd.func8.symm.trans hfn)).symm
      exact ⟨by kernel_rfl, fun j t ht => by
        rw [Tryd.params8] at ht
        have hm : t ∈ [56, 3, 3, 3, 3] := by simpa using Array.mem_of_getElem? ht
        have hall : ([56, 3, 3, 3, 3].all fun u => !Tryd.prog.wantsStandIn u) = true := by kernel_rfl
        exact (show Tryd.prog.wantsStandIn t = false by simpa using List.all_eq_true.1 hall t hm)⟩)
    (by kernel_rfl)
end Go.Proofs.YtlnlgboeohfpdaaDoor
