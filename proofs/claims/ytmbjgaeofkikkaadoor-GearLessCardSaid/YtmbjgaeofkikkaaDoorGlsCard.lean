/- For every gear, every rig, all batches, days and loads GearLess returns true and leaves its arguments as they were: a rig that may lift loads may lift lesser ones, and on earlier days, until the day that Until tells. Conditions: none beyond the row. The statement's card: the library's tables are tied to the program's text. -/
import Derived.Test.YtmbjgaeofkikkaaDoorCards
import Derived.Test.YtmbjgaeofkikkaaDoorTie
import Derived.Test.YtmbjgaeofkikkaaDoorGlsRow
import Derived.SevenTiedAt
namespace Go.Proofs.YtmbjgaeofkikkaaDoor
open Go

theorem gearLess_card : Rows.GearLessCardSaid :=
  Claim7.holds_tied_plain_at .later [] [.data, .pinned] true (true, "d8f43cebefd7576708bb3477cf804489d3504fdc49e439788e2bb645017e7089") false
    gearLess_holds (fun _ h => by cases h) (by kernel_rfl) (fun _ h => by cases h) gearLess_row_tie rfl ⟨rfl, rfl⟩ (by kernel_rfl) rfl
    (fun f fn hf hfn => by
      obtain rfl : f = 7 := Option.some.inj ((show Tryd.prog.funcNamed "steeplejack/steeplejacklaw07.GearLess" = some 7 by kernel_rfl).symm.trans hf) |>.symm
      obtain rfl : fn = Tryd.f7 := (Option.some.inj (Tryd.func7.symm.trans hfn)).symm
      exact ⟨by kernel_rfl, fun j t ht => by
        rw [Tryd.params7] at ht
        have hm : t ∈ [22, 23, 39, 3, 30, 3, 30] := by simpa using Array.mem_of_getElem? ht
        have hall : ([22, 23, 39, 3, 30, 3, 30].all fun u => !Tryd.prog.wantsStandIn u) = true := by kernel_rfl
        exact (show Tryd.prog.wantsStandIn t = false by simpa using List.all_eq_true.1 hall t hm)⟩)
    (by kernel_rfl)
end Go.Proofs.YtmbjgaeofkikkaaDoor
