/- For every uses and every text RopeTexts returns true and leaves its arguments as they were: Format and Parse answer as the reference does, and each text is read back. Conditions: none beyond the row. The statement's card: the library's tables and errors are tied to the program's text. -/
import Derived.Test.YtccjfmhbmieigaaDoorCards
import Derived.Test.YtccjfmhbmieigaaDoorTie
import Derived.Test.YtccjfmhbmieigaaDoorRtxRow
import Derived.SevenTiedAt
namespace Go.Proofs.YtccjfmhbmieigaaDoor
open Go

theorem ropeTexts_card : Rows.RopeTextsCardSaid :=
  Claim7.holds_tied_plain_at .later [] [.data, .data, .data, .sentinel, .sentinel] true (true, "dcc311f62ad05372fcafac9ede303803d0a0c8a5de45584b81a8c607074479ac") true
    ropeTexts_holds (fun _ h => by cases h) (by kernel_rfl) (fun _ h => by cases h) ropeTexts_row_tie rfl ⟨rfl, rfl⟩ (by kernel_rfl) rfl
    (fun f fn hf hfn => by
      obtain rfl : f = 4 := Option.some.inj ((show Tryd.prog.funcNamed "steeplejack/steeplejacklaw04.RopeTexts" = some 4 by kernel_rfl).symm.trans hf) |>.symm
      obtain rfl : fn = Tryd.f4 := (Option.some.inj (Tryd.func4.symm.trans hfn)).symm
      exact ⟨by kernel_rfl, fun j t ht => by
        rw [Tryd.params4] at ht
        have hm : t ∈ [30, 9] := by simpa using Array.mem_of_getElem? ht
        have hall : ([30, 9].all fun u => !Tryd.prog.wantsStandIn u) = true := by kernel_rfl
        exact (show Tryd.prog.wantsStandIn t = false by simpa using List.all_eq_true.1 hall t hm)⟩)
    (by kernel_rfl)
end Go.Proofs.YtccjfmhbmieigaaDoor
