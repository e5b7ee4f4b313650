/- For every slice of courses, every course and any three numbers StackMakes returns true and leaves its arguments as they were: Added, Cut and Split answer as the reference does. Conditions: none beyond the row. The statement's card: the table of the winds is tied to the program's text. -/
import Derived.Test.YtplhbklfaokjbaaDoorCards
import Derived.Test.YtplhbklfaokjbaaDoorTie
import Derived.Test.YtplhbklfaokjbaaDoorMakesRow
import Derived.SevenTiedAt
namespace Go.Proofs.YtplhbklfaokjbaaDoor
open Go

theorem stackMakes_card : Rows.StackMakesCardSaid :=
  Claim7.holds_tied_plain_at .later [] [.data] true (true, "c961ea9da6d31ec0744368c99dd1e70517042a9c0d698c0c510b85d1fc68b4a7") false
    stackMakes_holds (fun _ h => by cases h) (by kernel_rfl) (fun _ h => by cases h) stackMakes_row_tie rfl ⟨rfl, rfl⟩ (by kernel_rfl) rfl
    (fun f fn hf hfn => by
      obtain rfl : f = 8 := Option.some.inj ((show Tryd.prog.funcNamed "steeplejack/steeplejacklaw02.StackMakes" = some 8 by kernel_rfl).symm.trans hf) |>.symm
      obtain rfl : fn = Tryd.f8 := (Option.some.inj (Tryd.func8.symm.trans hfn)).symm
      exact ⟨by kernel_rfl, fun j t ht => by
        rw [Tryd.params8] at ht
        have hm : t ∈ [22, 51, 34] := by simpa using Array.mem_of_getElem? ht
        have hall : ([22, 51, 34].all fun u => !Tryd.prog.wantsStandIn u) = true := by kernel_rfl
        exact (show Tryd.prog.wantsStandIn t = false by simpa using List.all_eq_true.1 hall t hm)⟩)
    (by kernel_rfl)
end Go.Proofs.YtplhbklfaokjbaaDoor
