/- For every gear, rig and number of days TopRigs returns true and leaves its arguments as they were: a rig may lift its shares until its last day, and not later, not with a newton more at any end, and again when what is out of date is looked at. Conditions: none beyond the row. The statement's card: the library's tables are tied to the program's text. -/
import Derived.Test.YteojmhfocdlnoaaDoorCards
import Derived.Test.YteojmhfocdlnoaaDoorTie
import Derived.Test.YteojmhfocdlnoaaDoorTriRow
import Derived.SevenTiedAt
namespace Go.Proofs.YteojmhfocdlnoaaDoor
open Go

theorem topRigs_card : Rows.TopRigsCardSaid :=
  Claim7.holds_tied_plain_at .later [] [.data, .pinned] true (true, "2b7050201f509d0b9b9221b15b0b827e86262b9de5a7f435d126fae804e5d491") false
    topRigs_holds (fun _ h => by cases h) (by kernel_rfl) (fun _ h => by cases h) topRigs_row_tie rfl ⟨rfl, rfl⟩ (by kernel_rfl) rfl
    (fun f fn hf hfn => by
      obtain rfl : f = 3 := Option.some.inj ((show Tryd.prog.funcNamed "steeplejack/steeplejacktop.TopRigs" = some 3 by kernel_rfl).symm.trans hf) |>.symm
      obtain rfl : fn = Tryd.f3 := (Option.some.inj (Tryd.func3.symm.trans hfn)).symm
      exact ⟨by kernel_rfl, fun j t ht => by
        rw [Tryd.params3] at ht
        have hm : t ∈ [22, 23, 3] := by simpa using Array.mem_of_getElem? ht
        have hall : ([22, 23, 3].all fun u => !Tryd.prog.wantsStandIn u) = true := by kernel_rfl
        exact (show Tryd.prog.wantsStandIn t = false by simpa using List.all_eq_true.1 hall t hm)⟩)
    (by kernel_rfl)
end Go.Proofs.YteojmhfocdlnoaaDoor
