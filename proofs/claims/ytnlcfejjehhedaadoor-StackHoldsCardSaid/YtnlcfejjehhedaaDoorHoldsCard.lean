/- For every slice of courses, every bed, pressure and side StackHolds returns true and leaves its arguments as they were: a bed that is closed holds, and a stack that has no open bed stands. Conditions: none beyond the row. The statement's card: the table of the winds is tied to the program's text. -/
import Derived.Test.YtnlcfejjehhedaaDoorCards
import Derived.Test.YtnlcfejjehhedaaDoorTie
import Derived.Test.YtnlcfejjehhedaaDoorHoldsRow
import Derived.SevenTiedAt
namespace Go.Proofs.YtnlcfejjehhedaaDoor
open Go

theorem stackHolds_card : Rows.StackHoldsCardSaid :=
  Claim7.holds_tied_plain_at .later [] [.data] true (true, "c961ea9da6d31ec0744368c99dd1e70517042a9c0d698c0c510b85d1fc68b4a7") false
    stackHolds_holds (fun _ h => by cases h) (by kernel_rfl) (fun _ h => by cases h) stackHolds_row_tie rfl ⟨rfl, rfl⟩ (by kernel_rfl) rfl
    (fun f fn hf hfn => by
      obtain rfl : f = 12 := Option.some.inj ((show Tryd.prog.funcNamed "steeplejack/steeplejacklaw02.StackHolds" = some 12 by kernel_rfl).symm.trans hf) |>.symm
      obtain rfl : fn = Tryd.f12 := (Option.some.inj (Tryd.func12.symm.trans hfn)).symm
      exact ⟨by kernel_rfl, fun j t ht => by
        rw [Tryd.params12] at ht
        have hm : t ∈ [22, 34] := by simpa using Array.mem_of_getElem? ht
        have hall : ([22, 34].all fun u => !Tryd.prog.wantsStandIn u) = true := by kernel_rfl
        exact (show Tryd.prog.wantsStandIn t = false by simpa using List.all_eq_true.1 hall t hm)⟩)
    (by kernel_rfl)
end Go.Proofs.YtnlcfejjehhedaaDoor
