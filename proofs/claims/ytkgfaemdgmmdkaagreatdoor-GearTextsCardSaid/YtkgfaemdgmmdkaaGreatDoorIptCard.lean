/- For every gear and every text GearTexts returns true and leaves its arguments as they were: Format and Parse answer as the reference does, and each text is read back. Conditions: none beyond the row. The statement's card: the library's tables and errors are tied to the program's text. -/
import Derived.Test.YtkgfaemdgmmdkaaGreatDoorCards
import Derived.Test.YtkgfaemdgmmdkaaGreatDoorTie
import Derived.Test.YtkgfaemdgmmdkaaGreatDoorIptRow
import Derived.SevenTiedAt
namespace Go.Proofs.YtkgfaemdgmmdkaaGreatDoor
open Go

theorem gearTexts_card : Rows.GearTextsCardSaid :=
  Claim7.holds_tied_plain_at .later [] [.data, .data, .data, .data, .sentinel, .sentinel, .pinned] true (true, "1a802e6c82f89c08decebe1a4b0276ba00a4ba5a3eabc060dc8a0fa0f2d3bbc7") true
    gearTexts_holds (fun _ h => by cases h) (by kernel_rfl) (fun _ h => by cases h) gearTexts_row_tie rfl ⟨rfl, rfl⟩ (by kernel_rfl) rfl
    (fun f fn hf hfn => by
      obtain rfl : f = 3 := Option.some.inj ((show Tryz.prog.funcNamed "steeplejack/steeplejacklaw07.GearTexts" = some 3 by kernel_rfl).symm.trans hf) |>.symm
      obtain rfl : fn = Tryz.f3 := (Option.some.inj (Tryz.func3.symm.trans hfn)).symm
      exact ⟨by kernel_rfl, fun j t ht => by
        rw [Tryz.params3] at ht
        have hm : t ∈ [22, 9] := by simpa using Array.mem_of_getElem? ht
        have hall : ([22, 9].all fun u => !Tryz.prog.wantsStandIn u) = true := by kernel_rfl
        exact (show Tryz.prog.wantsStandIn t = false by simpa using List.all_eq_true.1 hall t hm)⟩)
    (by kernel_rfl)
end Go.Proofs.YtkgfaemdgmmdkaaGreatDoor
