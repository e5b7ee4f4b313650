/- For every gear, all rigs, every batch, day and loads GearCalls returns true and leaves its arguments as they were: Called, Touched and Taken are as 7.3 says, and a rig may lift nothing when a batch that touches it is called back, and just what it might lift before when the batch does not touch it. Conditions: none beyond the row. The statement's card: the library's tables are tied to the program's text. -/
import Derived.Test.YtmbjgaeofkikkaaDoorCards
import Derived.Test.YtmbjgaeofkikkaaDoorTie
import Derived.Test.YtmbjgaeofkikkaaDoorGclRow
import Derived.SevenTiedAt
namespace Go.Proofs.YtmbjgaeofkikkaaDoor
open Go

theorem gearCalls_card : Rows.GearCallsCardSaid :=
  Claim7.holds_tied_plain_at .later [] [.data, .pinned] true (true, "d8f43cebefd7576708bb3477cf804489d3504fdc49e439788e2bb645017e7089") false
    gearCalls_holds (fun _ h => by cases h) (by kernel_rfl) (fun _ h => by cases h) gearCalls_row_tie rfl ⟨rfl, rfl⟩ (by kernel_rfl) rfl
    (fun f fn hf hfn => by
      obtain rfl : f = 8 := Option.some.inj ((show Tryd.prog.funcNamed "steeplejack/steeplejacklaw07.GearCalls" = some 8 by kernel_rfl).symm.trans hf) |>.symm
      obtain rfl : fn = Tryd.f8 := (Option.some.inj (Tryd.func8.symm.trans hfn)).symm
      exact ⟨by kernel_rfl, fun j t ht => by
        rw [Tryd.params8] at ht
        have hm : t ∈ [22, 50, 9, 3, 30] := by simpa using Array.mem_of_getElem? ht
        have hall : ([22, 50, 9, 3, 30].all fun u => !Tryd.prog.wantsStandIn u) = true := by kernel_rfl
        exact (show Tryd.prog.wantsStandIn t = false by simpa using List.all_eq_true.1 hall t hm)⟩)
    (by kernel_rfl)
end Go.Proofs.YtmbjgaeofkikkaaDoor
