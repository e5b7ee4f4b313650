/- Whether a mark may follow the marks that have been read. -/
import Derived.Test.YtldopcneellfbaaGreatDoorParsem
namespace Go.Proofs.YtldopcneellfbaaGreatDoor
open Go.RowKit
attribute [local go_sem] After.cell After.frozen After.lt After.le After.ne After.ne' After.set_eq After.size_set After.lt_add

set_option maxRecDepth 100000 in
set_option maxHeartbeats 1000000 in
theorem follows_none (a : Option Addr) (cap : Nat) (p h e n : Int) (w : World) :
    Calls Tryz.prog 13 #[.slice a 0 cap, .agg #[.int .i64 h, .int .i64 e, .int .i64 n]] w fun x w' => x = .returned (.bool (decide (FolM 0 p h e n))) ∧ Below w.heap.size w w' := by
  by_cases hm : InMk h e n
  · have HM := Lib.hid (fun w => validMark_t h e n w hm)
    have Hm := Lib.hid hm
    clear hm
    go_enter Tryz.func13, Tryz.ntmps13
    go_wp2_with fail
    refine wp_region_after (by kernel_rfl) (by kernel_rfl) ?_; (repeat (first | go_big_quiet_step (((go_at_call 35; exact quiet_after (HM.out _)))) | (refine wpQuiet_step (fun K hK => ?_); go_simp; first | (refine hK _ ?_; clear hK K) | (apply Exists.intro; refine ⟨fun x => ?_, hK _ ?_⟩; ((go_at_call 35; exact quiet_after (HM.out _))); clear hK K)))); refine wpQuiet_nil ?_
    intro x1
    go_wp2
    go_ret
    exact ⟨ret_dec ⟨fun _ => ⟨by omega, Hm.out, fun h => absurd h (by omega)⟩, fun _ => rfl⟩, by (repeat' (first | (with_reducible exact Below.refl _ _) | (with_reducible assumption) | (with_reducible refine Below.alloc ?_ ?_ _) | (with_reducible refine Below.drew ?_) | (with_reducible refine below_drewN ?_ _) | (with_reducible refine Below.setCell ?_ ?_ _) | (with_reducible refine below_after ?_ ?_ _) | (with_reducible refine below_set ?_) | (with_reducible refine After.size_le _ ?_) | (with_reducible refine size_alloc_le ?_) | (with_reducible refine size_set_le ?_) | (with_reducible refine size_drewN_le ?_) | go_size))⟩
  · have HM := Lib.hid (fun w => validMark_f h e n w hm)
    have Hm := Lib.hid hm
    clear hm
    go_enter Tryz.func13, Tryz.ntmps13
    go_wp2_with fail
    refine wp_region_after (by kernel_rfl) (by kernel_rfl) ?_; (repeat (first | go_big_quiet_step (((go_at_call 35; exact quiet_after (HM.out _)))) | (refine wpQuiet_step (fun K hK => ?_); go_simp; first | (refine hK _ ?_; clear hK K) | (apply Exists.intro; refine ⟨fun x => ?_, hK _ ?_⟩; ((go_at_call 35; exact quiet_after (HM.out _))); clear hK K)))); refine wpQuiet_nil ?_
    intro x1
    go_wp2
    go_ret
    exact ⟨ret_dec (by simp; exact fun h => Hm.out h.2.1), by (repeat' (first | (with_reducible exact Below.refl _ _) | (with_reducible assumption) | (with_reducible refine Below.alloc ?_ ?_ _) | (with_reducible refine Below.drew ?_) | (with_reducible refine below_drewN ?_ _) | (with_reducible refine Below.setCell ?_ ?_ _) | (with_reducible refine below_after ?_ ?_ _) | (with_reducible refine below_set ?_) | (with_reducible refine After.size_le _ ?_) | (with_reducible refine size_alloc_le ?_) | (with_reducible refine size_set_le ?_) | (with_reducible refine size_drewN_le ?_) | go_size))⟩
theorem follows_own {W : World} {B : Nat} {v : Value} {k : Nat} {f : Nat → Nat → Int} (ho : W.ownsRow B 40 3 v k (mcs k f)) (hk : k ≤ 1000) (h e n : Int) :
    Calls Tryz.prog 13 #[v, .agg #[.int .i64 h, .int .i64 e, .int .i64 n]] W fun x w' => x = .returned (.bool (decide (FolM k (f (k - 1) 0) h e n))) ∧ Below W.heap.size W w' := by
  rcases Nat.eq_zero_or_pos k with rfl | h0
  · rcases Go.Joins.ownsRow_forms ho with ⟨rfl, _⟩ | ⟨g, c, rfl⟩
    · exact follows_none _ _ _ h e n W
    · exact follows_none _ _ _ h e n W
  · obtain ⟨g, cap, rfl, _, _, _, hf⟩ := mkOwn_of ho h0
    exact follows_any g 0 cap k _ h e n W hf.lt hk fun _ => by simpa using (hf.got (k - 1) (by omega)).1
end Go.Proofs.YtldopcneellfbaaGreatDoor
