/- For every rule and gusts WindCovers returns true and leaves its arguments as they were: each minute is in a stop, or work goes in it; stops never touch; work goes in no minute with a gust of Stop or more or without a reading; behind the calm minutes that Resumes counts, and not sooner, work goes again. Conditions: none beyond the row. The statement's card: the library's tables are tied to the program's text. -/
import Derived.Test.YtoolpmndlnkblaaDoorCards
import Derived.Test.YtoolpmndlnkblaaDoorTie
import Derived.Test.YtoolpmndlnkblaaDoorWcoRow
import Derived.SevenTiedAt
namespace Go.Proofs.YtoolpmndlnkblaaDoor
open Go

theorem windCovers_card : Rows.WindCoversCardSaid :=
  Claim7.holds_tied_plain_at .later [] [.data, .data, .data] true (true, "5ca8c383cc227cfedb8d7386cb764483c57b0a3fc9ceb66e568133b988041251") false
    windCovers_holds (fun _ h => by cases h) (by kernel_rfl) (fun _ h => by cases h) windCovers_row_tie rfl ⟨rfl, rfl⟩ (by kernel_rfl) rfl
    (fun f fn hf hfn => by
      obtain rfl : f = 4 := Option.some.inj ((show Tryd.prog.funcNamed "steeplejack/steeplejacklaw08.WindCovers" = some 4 by kernel_rfl).symm.trans hf) |>.symm
      obtain rfl : fn = Tryd.f4 := (Option.some.inj (Tryd.func4.symm.trans hfn)).symm
      exact ⟨by kernel_rfl, fun j t ht => by
        rw [Tryd.params4] at ht
        have hm : t ∈ [23, 24] := by simpa using Array.mem_of_getElem? ht
        have hall : ([23, 24].all fun u => !Tryd.prog.wantsStandIn u) = true := by kernel_rfl
        exact (show Tryd.prog.wantsStandIn t = false by simpa using List.all_eq_true.1 hall t hm)⟩)
    (by kernel_rfl)
end Go.Proofs.YtoolpmndlnkblaaDoor
