/- For every gusts and every text WindTexts returns true and leaves its arguments as they were: Format and Parse answer as the reference does, and each text is read back. Conditions: none beyond the row. The statement's card: the library's tables and errors are tied to the program's text. -/
import Derived.Test.YtmhjahljilaijaaDoorCards
import Derived.Test.YtmhjahljilaijaaDoorTie
import Derived.Test.YtmhjahljilaijaaDoorSxRow
import Derived.SevenTiedAt
namespace Go.Proofs.YtmhjahljilaijaaDoor
open Go

theorem windTexts_card : Rows.WindTextsCardSaid :=
  Claim7.holds_tied_plain_at .later [] [.data, .data, .data, .data, .sentinel, .sentinel, .pinned] true (true, "5279eef67cc10aeed9f524d5581839576a08ba6fb1a4534f32a57aded1a402f7") true
    windTexts_holds (fun _ h => by cases h) (by kernel_rfl) (fun _ h => by cases h) windTexts_row_tie rfl ⟨rfl, rfl⟩ (by kernel_rfl) rfl
    (fun f fn hf hfn => by
      obtain rfl : f = 3 := Option.some.inj ((show Tryd.prog.funcNamed "steeplejack/steeplejacklaw08.WindTexts" = some 3 by kernel_rfl).symm.trans hf) |>.symm
      obtain rfl : fn = Tryd.f3 := (Option.some.inj (Tryd.func3.symm.trans hfn)).symm
      exact ⟨by kernel_rfl, fun j t ht => by
        rw [Tryd.params3] at ht
        have hm : t ∈ [22, 9] := by simpa using Array.mem_of_getElem? ht
        have hall : ([22, 9].all fun u => !Tryd.prog.wantsStandIn u) = true := by kernel_rfl
        exact (show Tryd.prog.wantsStandIn t = false by simpa using List.all_eq_true.1 hall t hm)⟩)
    (by kernel_rfl)
end Go.Proofs.YtmhjahljilaijaaDoor
