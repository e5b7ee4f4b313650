/- For every slice of courses and any three numbers StackSplits returns true and leaves its arguments as they were: a split course changes no other bed in its weight, its centre and its moment. Conditions: none beyond the row. The statement's card: the table of the winds is tied to the program's text. -/
import Derived.Test.YtplhbklfaokjbaaDoorCards
import Derived.Test.YtplhbklfaokjbaaDoorTie
import Derived.Test.YtplhbklfaokjbaaDoorSplitsRow
import Derived.SevenTiedAt
namespace Go.Proofs.YtplhbklfaokjbaaDoor
open Go

theorem stackSplits_card : Rows.StackSplitsCardSaid :=
  Claim7.holds_tied_plain_at .later [] [.data] true (true, "c961ea9da6d31ec0744368c99dd1e70517042a9c0d698c0c510b85d1fc68b4a7") false
    stackSplits_holds (fun _ h => by cases h) (by kernel_rfl) (fun _ h => by cases h) stackSplits_row_tie rfl ⟨rfl, rfl⟩ (by kernel_rfl) rfl
    (fun f fn hf hfn => by
      obtain rfl : f = 13 := Option.some.inj ((show Tryd.prog.funcNamed "steeplejack/steeplejacklaw02.StackSplits" = some 13 by kernel_rfl).symm.trans hf) |>.symm
      obtain rfl : fn = Tryd.f13 := (Option.some.inj (Tryd.func13.symm.trans hfn)).symm
      exact ⟨by kernel_rfl, fun j t ht => by
        rw [Tryd.params13] at ht
        have hm : t ∈ [22, 34] := by simpa using Array.mem_of_getElem? ht
        have hall : ([22, 34].all fun u => !Tryd.prog.wantsStandIn u) = true := by kernel_rfl
        exact (show Tryd.prog.wantsStandIn t = false by simpa using List.all_eq_true.1 hall t hm)⟩)
    (by kernel_rfl)
end Go.Proofs.YtplhbklfaokjbaaDoor
