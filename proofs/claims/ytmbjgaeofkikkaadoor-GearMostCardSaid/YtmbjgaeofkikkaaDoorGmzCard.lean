/- For every gear, every rig, every link and all loads GearMost returns true and leaves its arguments as they were: Most, Until, Greatest and Shares are as 7.2 says; with the shares no link bears more than its Load, and no loads with which none does have a greater sum. Conditions: none beyond the row. The statement's card: the library's tables are tied to the program's text. -/
import Derived.Test.YtmbjgaeofkikkaaDoorCards
import Derived.Test.YtmbjgaeofkikkaaDoorTie
import Derived.Test.YtmbjgaeofkikkaaDoorGmzRow
import Derived.SevenTiedAt
namespace Go.Proofs.YtmbjgaeofkikkaaDoor
open Go

theorem gearMost_card : Rows.GearMostCardSaid :=
  Claim7.holds_tied_plain_at .later [] [.data, .pinned] true (true, "d8f43cebefd7576708bb3477cf804489d3504fdc49e439788e2bb645017e7089") false
    gearMost_holds (fun _ h => by cases h) (by kernel_rfl) (fun _ h => by cases h) gearMost_row_tie rfl ⟨rfl, rfl⟩ (by kernel_rfl) rfl
    (fun f fn hf hfn => by
      obtain rfl : f = 6 := Option.some.inj ((show Tryd.prog.funcNamed "steeplejack/steeplejacklaw07.GearMost" = some 6 by kernel_rfl).symm.trans hf) |>.symm
      obtain rfl : fn = Tryd.f6 := (Option.some.inj (Tryd.func6.symm.trans hfn)).symm
      exact ⟨by kernel_rfl, fun j t ht => by
        rw [Tryd.params6] at ht
        have hm : t ∈ [22, 23, 3, 30] := by simpa using Array.mem_of_getElem? ht
        have hall : ([22, 23, 3, 30].all fun u => !Tryd.prog.wantsStandIn u) = true := by kernel_rfl
        exact (show Tryd.prog.wantsStandIn t = false by simpa using List.all_eq_true.1 hall t hm)⟩)
    (by kernel_rfl)
end Go.Proofs.YtmbjgaeofkikkaaDoor
