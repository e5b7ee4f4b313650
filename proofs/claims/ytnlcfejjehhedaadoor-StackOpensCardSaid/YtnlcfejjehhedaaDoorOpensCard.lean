/- For every slice of courses, every pressure and side StackOpens returns true and leaves its arguments as they were: Open, Stands and Falls answer as the reference does. Conditions: none beyond the row. The statement's card: the table of the winds is tied to the program's text. -/
import Derived.Test.YtnlcfejjehhedaaDoorCards
import Derived.Test.YtnlcfejjehhedaaDoorTie
import Derived.Test.YtnlcfejjehhedaaDoorOpensRow
import Derived.SevenTiedAt
namespace Go.Proofs.YtnlcfejjehhedaaDoor
open Go

theorem stackOpens_card : Rows.StackOpensCardSaid :=
  Claim7.holds_tied_plain_at .later [] [.data] true (true, "c961ea9da6d31ec0744368c99dd1e70517042a9c0d698c0c510b85d1fc68b4a7") false
    stackOpens_holds (fun _ h => by cases h) (by kernel_rfl) (fun _ h => by cases h) stackOpens_row_tie rfl ⟨rfl, rfl⟩ (by kernel_rfl) rfl
    (fun f fn hf hfn => by
      obtain rfl : f = 5 := Option.some.inj ((show Tryd.prog.funcNamed "steeplejack/steeplejacklaw02.StackOpens" = some 5 by kernel_rfl).symm.trans hf) |>.symm
      obtain rfl : fn = Tryd.f5 := (Option.some.inj (Tryd.func5.symm.trans hfn)).symm
      exact ⟨by kernel_rfl, fun j t ht => by
        rw [Tryd.params5] at ht
        have hm : t ∈ [22, 3, 3] := by simpa using Array.mem_of_getElem? ht
        have hall : ([22, 3, 3].all fun u => !Tryd.prog.wantsStandIn u) = true := by kernel_rfl
        exact (show Tryd.prog.wantsStandIn t = false by simpa using List.all_eq_true.1 hall t hm)⟩)
    (by kernel_rfl)
end Go.Proofs.YtnlcfejjehhedaaDoor
