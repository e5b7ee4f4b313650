/- For every stack and every text StackTexts returns true and leaves its arguments as they were: Format and Parse answer as the reference does, and each text is read back. Conditions: none beyond the row. The statement's card: the library's tables and errors and the table of the winds are tied to the program's text. -/
import Derived.Test.YtcaelmaoldmgpaaDoorCards
import Derived.Test.YtcaelmaoldmgpaaDoorTie
import Derived.Test.YtcaelmaoldmgpaaDoorStxRow
import Derived.SevenTiedAt
namespace Go.Proofs.YtcaelmaoldmgpaaDoor
open Go

theorem stackTexts_card : Rows.StackTextsCardSaid :=
  Claim7.holds_tied_plain_at .later [] [.data, .data, .data, .data, .sentinel, .sentinel, .data, .pinned] true (true, "dcc311f62ad05372fcafac9ede303803d0a0c8a5de45584b81a8c607074479ac") true
    stackTexts_holds (fun _ h => by cases h) (by kernel_rfl) (fun _ h => by cases h) stackTexts_row_tie rfl ⟨rfl, rfl⟩ (by kernel_rfl) rfl
    (fun f fn hf hfn => by
      obtain rfl : f = 3 := Option.some.inj ((show Tryd.prog.funcNamed "steeplejack/steeplejacklaw02.StackTexts" = some 3 by kernel_rfl).symm.trans hf) |>.symm
      obtain rfl : fn = Tryd.f3 := (Option.some.inj (Tryd.func3.symm.trans hfn)).symm
      exact ⟨by kernel_rfl, fun j t ht => by
        rw [Tryd.params3] at ht
        have hm : t ∈ [22, 9] := by simpa using Array.mem_of_getElem? ht
        have hall : ([22, 9].all fun u => !Tryd.prog.wantsStandIn u) = true := by kernel_rfl
        exact (show Tryd.prog.wantsStandIn t = false by simpa using List.all_eq_true.1 hall t hm)⟩)
    (by kernel_rfl)
end Go.Proofs.YtcaelmaoldmgpaaDoor
