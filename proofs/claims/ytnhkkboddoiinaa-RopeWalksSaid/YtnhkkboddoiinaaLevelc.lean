/- Level's second closure: the difference at a place against that at the next one. -/
import Derived.Test.YtnhkkboddoiinaaWalkc
import Derived.Deep.RegionWith
namespace Go.Proofs.Ytnhkkboddoiinaa
open Go.RowKit
attribute [local go_sem] After.cell After.frozen After.lt After.le After.ne After.ne' After.set_eq After.size_set After.lt_add

set_option maxRecDepth 100000 in
set_option maxHeartbeats 1000000 in
theorem level2_any (at' A B : Int) (b : Bool) (db : Nat) (p1 : Value) (W : World) (hb : decide (A ≤ B) = b) (a0 : 0 ≤ at') (a1 : at' ≤ 1000000)
    (c0 : W.cell? ⟨db, 0, none⟩ = some (.func (.func 77) #[] #[p1]))
    (h1 : ∀ W', Below W.heap.size W W' → Calls Try.prog 77 #[.int .i64 at', p1] W' fun e w' => e = .returned (.int .i64 A) ∧ Below W'.heap.size W' w')
    (h2 : ∀ W', Below W.heap.size W W' → Calls Try.prog 77 #[.int .i64 (at' + 1), p1] W' fun e w' => e = .returned (.int .i64 B) ∧ Below W'.heap.size W' w') :
    Calls Try.prog 78 #[.int .i64 at', .pointer (some ⟨db, 0, none⟩)] W fun e w' => e = .returned (.bool b) ∧ Below W.heap.size W w' := by
  have HK1 : Hid (∀ W', Below W.heap.size W W' → Calls Try.prog 77 #[.int .i64 at', p1] W' fun e w' => ∃ z : After W, e = .returned (.int .i64 A) ∧ w' = z.w) := fun W' hW => (h1 W' hW).mono fun e w' ⟨he, hb⟩ => ⟨⟨w', hW.trans (hb.mono hW.size)⟩, he, rfl⟩
  have HK2 : Hid (∀ W', Below W.heap.size W W' → Calls Try.prog 77 #[.int .i64 (IntKind.i64.wrap (at' + 1)), p1] W' fun e w' => ∃ z : After W, e = .returned (.int .i64 B) ∧ w' = z.w) := fun W' hW => by
    rw [IntWalk.i64_in _ ⟨by omega, by omega⟩]
    exact (h2 W' hW).mono fun e w' ⟨he, hb⟩ => ⟨⟨w', hW.trans (hb.mono hW.size)⟩, he, rfl⟩
  have hdb : db < W.heap.size := World.block_lt_of_cell? W _ c0
  clear h1 h2
  go_enter Try.func78, Try.ntmps78
  go_wp2_with fail
  go_region_with (go_at_call 77; first | (with_reducible refine (HK1.out _ (by (repeat' (first | (with_reducible exact Below.refl _ _) | (with_reducible assumption) | (with_reducible refine Below.alloc ?_ ?_ _) | (with_reducible refine Below.drew ?_) | (with_reducible refine below_drewN ?_ _) | (with_reducible refine Below.setCell ?_ ?_ _) | (with_reducible refine below_after ?_ ?_ _) | (with_reducible refine below_set ?_) | (with_reducible refine After.size_le _ ?_) | (with_reducible refine size_alloc_le ?_) | (with_reducible refine size_set_le ?_) | (with_reducible refine size_drewN_le ?_) | go_size)))).mono ?_; rintro e w1 ⟨z, rfl, rfl⟩) | (with_reducible refine (HK2.out _ (by (repeat' (first | (with_reducible exact Below.refl _ _) | (with_reducible assumption) | (with_reducible refine Below.alloc ?_ ?_ _) | (with_reducible refine Below.drew ?_) | (with_reducible refine below_drewN ?_ _) | (with_reducible refine Below.setCell ?_ ?_ _) | (with_reducible refine below_after ?_ ?_ _) | (with_reducible refine below_set ?_) | (with_reducible refine After.size_le _ ?_) | (with_reducible refine size_alloc_le ?_) | (with_reducible refine size_set_le ?_) | (with_reducible refine size_drewN_le ?_) | go_size)))).mono ?_; rintro e w1 ⟨y, rfl, rfl⟩))
  all_goals
    go_wp2
    go_ret
    exact ⟨rfl, by (repeat' (first | (with_reducible exact Below.refl _ _) | (with_reducible assumption) | (with_reducible refine Below.alloc ?_ ?_ _) | (with_reducible refine Below.drew ?_) | (with_reducible refine below_drewN ?_ _) | (with_reducible refine Below.setCell ?_ ?_ _) | (with_reducible refine below_after ?_ ?_ _) | (with_reducible refine below_set ?_) | (with_reducible refine After.size_le _ ?_) | (with_reducible refine size_alloc_le ?_) | (with_reducible refine size_set_le ?_) | (with_reducible refine size_drewN_le ?_) | go_size))⟩
end Go.Proofs.Ytnhkkboddoiinaa
