/- Walk's closures, by what the closure that they call answers. -/
import Derived.Test.YtnhkkboddoiinaaShares
import Derived.Test.YtnhkkboddoiinaaSearch
import Derived.IntWalk
namespace Go.Proofs.Ytnhkkboddoiinaa
open Go.RowKit
attribute [local go_sem] After.cell After.frozen After.lt After.le After.ne After.ne' After.set_eq After.size_set After.lt_add

set_option maxRecDepth 100000 in
set_option maxHeartbeats 1000000 in
theorem walk1_any (s at' lim F T : Int) (b : Bool) (fb mb sb : Nat) (p1 p2 p3 : Value) (W : World) (hb : decide (F ≤ lim * s) = b) (h1 : 0 ≤ lim * s) (h2 : lim * s ≤ 1000000000000)
    (c0 : W.cell? ⟨fb, 0, none⟩ = some (.func (.func 99) #[] #[p1, p2, p3])) (c1 : W.cell? ⟨mb, 0, none⟩ = some (.int .i64 lim)) (c2 : W.cell? ⟨sb, 0, none⟩ = some (.int .i64 s))
    (hM : Calls Try.prog 99 #[.int .i64 at', p1, p2, p3] W fun e w' => e = .returned (.tuple #[.int .i64 F, .int .i64 T]) ∧ Below W.heap.size W w') :
    Calls Try.prog 75 #[.int .i64 at', .pointer (some ⟨fb, 0, none⟩), .pointer (some ⟨mb, 0, none⟩), .pointer (some ⟨sb, 0, none⟩)] W fun e w' => e = .returned (.bool b) ∧ Below W.heap.size W w' := by
  have HM := Lib.hid hM
  have hm : mb < W.heap.size := World.block_lt_of_cell? W _ c1
  have hs : sb < W.heap.size := World.block_lt_of_cell? W _ c2
  clear hM
  go_enter Try.func75, Try.ntmps75
  go_wp2_with fail
  refine calls_after HM.out ?_
  intro x1
  go_wp2
  go_ret
  exact ⟨rfl, by (repeat' (first | (with_reducible exact Below.refl _ _) | (with_reducible assumption) | (with_reducible refine Below.alloc ?_ ?_ _) | (with_reducible refine Below.drew ?_) | (with_reducible refine below_drewN ?_ _) | (with_reducible refine Below.setCell ?_ ?_ _) | (with_reducible refine below_after ?_ ?_ _) | (with_reducible refine below_set ?_) | (with_reducible refine After.size_le _ ?_) | (with_reducible refine size_alloc_le ?_) | (with_reducible refine size_set_le ?_) | (with_reducible refine size_drewN_le ?_) | go_size))⟩
set_option maxRecDepth 100000 in
set_option maxHeartbeats 1000000 in
theorem walk2_any (s at' lim F T : Int) (b : Bool) (fb mb sb : Nat) (p1 p2 p3 : Value) (W : World) (hb : decide (lim * s < T) = b) (h1 : 0 ≤ lim * s) (h2 : lim * s ≤ 1000000000000)
    (c0 : W.cell? ⟨fb, 0, none⟩ = some (.func (.func 99) #[] #[p1, p2, p3])) (c1 : W.cell? ⟨mb, 0, none⟩ = some (.int .i64 lim)) (c2 : W.cell? ⟨sb, 0, none⟩ = some (.int .i64 s))
    (hM : Calls Try.prog 99 #[.int .i64 at', p1, p2, p3] W fun e w' => e = .returned (.tuple #[.int .i64 F, .int .i64 T]) ∧ Below W.heap.size W w') :
    Calls Try.prog 76 #[.int .i64 at', .pointer (some ⟨fb, 0, none⟩), .pointer (some ⟨mb, 0, none⟩), .pointer (some ⟨sb, 0, none⟩)] W fun e w' => e = .returned (.bool b) ∧ Below W.heap.size W w' := by
  have HM := Lib.hid hM
  have hm : mb < W.heap.size := World.block_lt_of_cell? W _ c1
  have hs : sb < W.heap.size := World.block_lt_of_cell? W _ c2
  clear hM
  go_enter Try.func76, Try.ntmps76
  go_wp2_with fail
  refine calls_after HM.out ?_
  intro x1
  go_wp2
  go_ret
  exact ⟨rfl, by (repeat' (first | (with_reducible exact Below.refl _ _) | (with_reducible assumption) | (with_reducible refine Below.alloc ?_ ?_ _) | (with_reducible refine Below.drew ?_) | (with_reducible refine below_drewN ?_ _) | (with_reducible refine Below.setCell ?_ ?_ _) | (with_reducible refine below_after ?_ ?_ _) | (with_reducible refine below_set ?_) | (with_reducible refine After.size_le _ ?_) | (with_reducible refine size_alloc_le ?_) | (with_reducible refine size_set_le ?_) | (with_reducible refine size_drewN_le ?_) | go_size))⟩
set_option maxRecDepth 100000 in
set_option maxHeartbeats 1000000 in
theorem level1_any (at' F T : Int) (fb : Nat) (p1 p2 p3 : Value) (W : World) (h1 : 0 ≤ F) (h2 : F ≤ 10000000000000) (h3 : 0 ≤ T) (h4 : T ≤ 10000000000000)
    (c0 : W.cell? ⟨fb, 0, none⟩ = some (.func (.func 99) #[] #[p1, p2, p3]))
    (hM : Calls Try.prog 99 #[.int .i64 at', p1, p2, p3] W fun e w' => e = .returned (.tuple #[.int .i64 F, .int .i64 T]) ∧ Below W.heap.size W w') :
    Calls Try.prog 77 #[.int .i64 at', .pointer (some ⟨fb, 0, none⟩)] W fun e w' => e = .returned (.int .i64 (F - T).natAbs) ∧ Below W.heap.size W w' := by
  have HM := Lib.hid hM
  clear hM
  go_enter Try.func77, Try.ntmps77
  go_wp2_with fail
  refine calls_after HM.out ?_
  intro x1
  go_wp2
  · go_ret
    exact ⟨show Ending.returned (Value.int .i64 (T - F)) = _ by rw [show ((F - T).natAbs : Int) = T - F by omega], by (repeat' (first | (with_reducible exact Below.refl _ _) | (with_reducible assumption) | (with_reducible refine Below.alloc ?_ ?_ _) | (with_reducible refine Below.drew ?_) | (with_reducible refine below_drewN ?_ _) | (with_reducible refine Below.setCell ?_ ?_ _) | (with_reducible refine below_after ?_ ?_ _) | (with_reducible refine below_set ?_) | (with_reducible refine After.size_le _ ?_) | (with_reducible refine size_alloc_le ?_) | (with_reducible refine size_set_le ?_) | (with_reducible refine size_drewN_le ?_) | go_size))⟩
  · go_ret
    exact ⟨show Ending.returned (Value.int .i64 (F - T)) = _ by rw [show ((F - T).natAbs : Int) = F - T by omega], by (repeat' (first | (with_reducible exact Below.refl _ _) | (with_reducible assumption) | (with_reducible refine Below.alloc ?_ ?_ _) | (with_reducible refine Below.drew ?_) | (with_reducible refine below_drewN ?_ _) | (with_reducible refine Below.setCell ?_ ?_ _) | (with_reducible refine below_after ?_ ?_ _) | (with_reducible refine below_set ?_) | (with_reducible refine After.size_le _ ?_) | (with_reducible refine size_alloc_le ?_) | (with_reducible refine size_set_le ?_) | (with_reducible refine size_drewN_le ?_) | go_size))⟩
end Go.Proofs.Ytnhkkboddoiinaa
