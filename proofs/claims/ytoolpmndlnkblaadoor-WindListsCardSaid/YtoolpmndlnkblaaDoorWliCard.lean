/- For every two lists of gusts, rules and two numbers WindLists returns true and leaves its arguments as they were: Strictest, Highest, Missing and Joined answer as the reference does. Conditions: none beyond the row. The statement's card: the library's tables are tied to the program's text. -/
import Derived.Test.YtoolpmndlnkblaaDoorCards
import Derived.Test.YtoolpmndlnkblaaDoorTie
import Derived.Test.YtoolpmndlnkblaaDoorWliRow
import Derived.SevenTiedAt
namespace Go.Proofs.YtoolpmndlnkblaaDoor
open Go

theorem windLists_card : Rows.WindListsCardSaid :=
  Claim7.holds_tied_plain_at .later [] [.data, .data, .data] true (true, "5ca8c383cc227cfedb8d7386cb764483c57b0a3fc9ceb66e568133b988041251") false
    windLists_holds (fun _ h => by cases h) (by kernel_rfl) (fun _ h => by cases h) windLists_row_tie rfl ⟨rfl, rfl⟩ (by kernel_rfl) rfl
    (fun f fn hf hfn => by
      obtain rfl : f = 7 := Option.some.inj ((show Tryd.prog.funcNamed "steeplejack/steeplejacklaw08.WindLists" = some 7 by kernel_rfl).symm.trans hf) |>.symm
      obtain rfl : fn = Tryd.f7 := (Option.some.inj (Tryd.func7.symm.trans hfn)).symm
      exact ⟨by kernel_rfl, fun j t ht => by
        rw [Tryd.params7] at ht
        have hm : t ∈ [24, 24, 48, 3, 3] := by simpa using Array.mem_of_getElem? ht
        have hall : ([24, 24, 48, 3, 3].all fun u => !Tryd.prog.wantsStandIn u) = true := by kernel_rfl
        exact (show Tryd.prog.wantsStandIn t = false by simpa using List.all_eq_true.1 hall t hm)⟩)
    (by kernel_rfl)
end Go.Proofs.YtoolpmndlnkblaaDoor
