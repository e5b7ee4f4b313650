/- StackSums: the law's walk. -/
import Derived.Test.YtnlcfejjehhedaaDoorCsay
namespace Go.Proofs.YtnlcfejjehhedaaDoor
open Go.RowKit
attribute [local go_sem 10000] eql_ratio neq_ratio
attribute [local go_sem] After.cell After.frozen After.lt After.le After.ne After.ne' After.set_eq After.size_set After.lt_add eq2_self

set_option maxRecDepth 100000 in
set_option maxHeartbeats 1000000 in
theorem stackSums_long (a : Option Addr) (n cap : Nat) (i : Int) (w : World) (hT : Tab w) (h : 100 < n) :
    Calls Tryd.prog 3 #[.slice a n cap, .int .i64 i] w fun e w' => e = .returned (.bool true) ∧ Below w.heap.size w w' := by
  have d1 : decide ((100 : Int) < (n : Int)) = true := decide_eq_true (by omega)
  have HT := Lib.hid (awake_any w hT)
  clear hT
  go_enter Tryd.func3, Tryd.ntmps3
  go_wp2_with fail
  refine calls_after HT.out ?_
  intro x1
  go_wp2
  go_ret
  exact ⟨rfl, by (repeat' (first | (with_reducible exact Below.refl _ _) | (with_reducible assumption) | (with_reducible refine Below.alloc ?_ ?_ _) | (with_reducible refine Below.drew ?_) | (with_reducible refine below_drewN ?_ _) | (with_reducible refine Below.setCell ?_ ?_ _) | (with_reducible refine below_after ?_ ?_ _) | (with_reducible refine below_set ?_) | (with_reducible refine After.size_le _ ?_) | (with_reducible refine size_alloc_le ?_) | (with_reducible refine size_set_le ?_) | (with_reducible refine size_drewN_le ?_) | go_size))⟩
set_option maxRecDepth 100000 in
set_option maxHeartbeats 2000000 in
theorem stackSums_any (v : Value) (n : Nat) (f : Nat → Nat → Int) (i : Int) (w : World) (hT : Tab w) (h : Crs w w.heap.size v n f) :
    Calls Tryd.prog 3 #[v, .int .i64 i] w fun e w' => e = .returned (.bool true) ∧ Below w.heap.size w w' := by
  by_cases hl : n ≤ 100
  · obtain ⟨hN, hE, h1, h2⟩ := heights h (by omega)
    obtain ⟨wt, e, aN, aD, bN, bD, h5, h6, h7, h8⟩ := weights h (by omega) i
    have H1 : Hid (∀ W, Below w.heap.size w W → _) := h1
    have H2 : Hid (∀ W, Below w.heap.size w W → _) := h2
    have H3 : Hid (∀ W, Below w.heap.size w W → _) := csay h (by omega)
    have H4 : Hid (∀ W, Below w.heap.size w W → _) := rcsay h (by omega)
    have H5 : Hid (∀ W, Below w.heap.size w W → _) := h5
    have H6 : Hid (∀ W, Below w.heap.size w W → _) := h6
    have H7 : Hid (∀ W, Below w.heap.size w W → _) := h7
    have H8 : Hid (∀ W, Below w.heap.size w W → _) := h8
    have H9 : Hid (∀ W, Below w.heap.size w W → _) := fun W hW => awake_any W (hT.on hW)
    generalize decide (GoodC n f) = g at *
    obtain ⟨a, cap, rfl, _⟩ := h
    clear h1 h2 h5 h6 h7 h8 hT
    have d1 : decide ((100 : Int) < (n : Int)) = false := decide_eq_false (by omega)
    go_enter Tryd.func3, Tryd.ntmps3
    (go_wp2_with fail); refine calls_after (H1.out _ (by (repeat' (first | (with_reducible exact Below.refl _ _) | (with_reducible assumption) | (with_reducible refine Below.alloc ?_ ?_ _) | (with_reducible refine Below.drew ?_) | (with_reducible refine below_drewN ?_ _) | (with_reducible refine Below.setCell ?_ ?_ _) | (with_reducible refine below_after ?_ ?_ _) | (with_reducible refine below_set ?_) | (with_reducible refine After.size_le _ ?_) | (with_reducible refine size_alloc_le ?_) | (with_reducible refine size_set_le ?_) | (with_reducible refine size_drewN_le ?_) | go_size)))) ?_; intro x1
    (go_wp2_with fail); refine calls_after2 (H2.out _ (by (repeat' (first | (with_reducible exact Below.refl _ _) | (with_reducible assumption) | (with_reducible refine Below.alloc ?_ ?_ _) | (with_reducible refine Below.drew ?_) | (with_reducible refine below_drewN ?_ _) | (with_reducible refine Below.setCell ?_ ?_ _) | (with_reducible refine below_after ?_ ?_ _) | (with_reducible refine below_set ?_) | (with_reducible refine After.size_le _ ?_) | (with_reducible refine size_alloc_le ?_) | (with_reducible refine size_set_le ?_) | (with_reducible refine size_drewN_le ?_) | go_size)))) ?_; intro x2
    (go_wp2_with fail); refine calls_after2 (H3.out _ (by (repeat' (first | (with_reducible exact Below.refl _ _) | (with_reducible assumption) | (with_reducible refine Below.alloc ?_ ?_ _) | (with_reducible refine Below.drew ?_) | (with_reducible refine below_drewN ?_ _) | (with_reducible refine Below.setCell ?_ ?_ _) | (with_reducible refine below_after ?_ ?_ _) | (with_reducible refine below_set ?_) | (with_reducible refine After.size_le _ ?_) | (with_reducible refine size_alloc_le ?_) | (with_reducible refine size_set_le ?_) | (with_reducible refine size_drewN_le ?_) | go_size)))) ?_; intro x3
    (go_wp2_with fail); refine calls_after2 (H4.out _ (by (repeat' (first | (with_reducible exact Below.refl _ _) | (with_reducible assumption) | (with_reducible refine Below.alloc ?_ ?_ _) | (with_reducible refine Below.drew ?_) | (with_reducible refine below_drewN ?_ _) | (with_reducible refine Below.setCell ?_ ?_ _) | (with_reducible refine below_after ?_ ?_ _) | (with_reducible refine below_set ?_) | (with_reducible refine After.size_le _ ?_) | (with_reducible refine size_alloc_le ?_) | (with_reducible refine size_set_le ?_) | (with_reducible refine size_drewN_le ?_) | go_size)))) ?_; intro x4
    (go_wp2_with fail); refine calls_after2 (H5.out _ (by (repeat' (first | (with_reducible exact Below.refl _ _) | (with_reducible assumption) | (with_reducible refine Below.alloc ?_ ?_ _) | (with_reducible refine Below.drew ?_) | (with_reducible refine below_drewN ?_ _) | (with_reducible refine Below.setCell ?_ ?_ _) | (with_reducible refine below_after ?_ ?_ _) | (with_reducible refine below_set ?_) | (with_reducible refine After.size_le _ ?_) | (with_reducible refine size_alloc_le ?_) | (with_reducible refine size_set_le ?_) | (with_reducible refine size_drewN_le ?_) | go_size)))) ?_; intro x5
    (go_wp2_with fail); refine calls_after2 (H6.out _ (by (repeat' (first | (with_reducible exact Below.refl _ _) | (with_reducible assumption) | (with_reducible refine Below.alloc ?_ ?_ _) | (with_reducible refine Below.drew ?_) | (with_reducible refine below_drewN ?_ _) | (with_reducible refine Below.setCell ?_ ?_ _) | (with_reducible refine below_after ?_ ?_ _) | (with_reducible refine below_set ?_) | (with_reducible refine After.size_le _ ?_) | (with_reducible refine size_alloc_le ?_) | (with_reducible refine size_set_le ?_) | (with_reducible refine size_drewN_le ?_) | go_size)))) ?_; intro x6
    (go_wp2_with fail); refine calls_after2 (H7.out _ (by (repeat' (first | (with_reducible exact Below.refl _ _) | (with_reducible assumption) | (with_reducible refine Below.alloc ?_ ?_ _) | (with_reducible refine Below.drew ?_) | (with_reducible refine below_drewN ?_ _) | (with_reducible refine Below.setCell ?_ ?_ _) | (with_reducible refine below_after ?_ ?_ _) | (with_reducible refine below_set ?_) | (with_reducible refine After.size_le _ ?_) | (with_reducible refine size_alloc_le ?_) | (with_reducible refine size_set_le ?_) | (with_reducible refine size_drewN_le ?_) | go_size)))) ?_; intro x7
    (go_wp2_with fail); refine calls_after (H8.out _ (by (repeat' (first | (with_reducible exact Below.refl _ _) | (with_reducible assumption) | (with_reducible refine Below.alloc ?_ ?_ _) | (with_reducible refine Below.drew ?_) | (with_reducible refine below_drewN ?_ _) | (with_reducible refine Below.setCell ?_ ?_ _) | (with_reducible refine below_after ?_ ?_ _) | (with_reducible refine below_set ?_) | (with_reducible refine After.size_le _ ?_) | (with_reducible refine size_alloc_le ?_) | (with_reducible refine size_set_le ?_) | (with_reducible refine size_drewN_le ?_) | go_size)))) ?_; intro x8; have hz_x8 := x8.out.size; (try simp only [World.size_alloc] at hz_x8); (try simp only [World.size_setCell] at hz_x8); (try simp only [World.size_alloc] at hz_x8); have k0_x8 : x7.w.heap.size < x8.w.heap.size := (by omega); have j0_x8 : x7.w.heap.size < x8.w.heap.size + 1 := (by omega); have k1_x8 : x7.w.heap.size + 1 < x8.w.heap.size := (by omega); have j1_x8 : x7.w.heap.size + 1 < x8.w.heap.size + 1 := (by omega)
    (go_wp2_with fail); refine calls_after (H9.out _ (by (repeat' (first | (with_reducible exact Below.refl _ _) | (with_reducible assumption) | (with_reducible refine Below.alloc ?_ ?_ _) | (with_reducible refine Below.drew ?_) | (with_reducible refine below_drewN ?_ _) | (with_reducible refine Below.setCell ?_ ?_ _) | (with_reducible refine below_after ?_ ?_ _) | (with_reducible refine below_set ?_) | (with_reducible refine After.size_le _ ?_) | (with_reducible refine size_alloc_le ?_) | (with_reducible refine size_set_le ?_) | (with_reducible refine size_drewN_le ?_) | go_size)))) ?_; intro x9; have hz_x9 := x9.out.size; (try simp only [World.size_alloc] at hz_x9); (try simp only [World.size_setCell] at hz_x9); (try simp only [World.size_alloc] at hz_x9); have k0_x9 : x7.w.heap.size < x9.w.heap.size := (by omega); have j0_x9 : x7.w.heap.size < x9.w.heap.size + 1 := (by omega); have k1_x9 : x7.w.heap.size + 1 < x9.w.heap.size := (by omega); have j1_x9 : x7.w.heap.size + 1 < x9.w.heap.size + 1 := (by omega); have k2_x9 : x8.w.heap.size < x9.w.heap.size := (by omega); have j2_x9 : x8.w.heap.size < x9.w.heap.size + 1 := (by omega); have k3_x9 : x8.w.heap.size + 1 < x9.w.heap.size := (by omega); have j3_x9 : x8.w.heap.size + 1 < x9.w.heap.size + 1 := (by omega)
    go_wp2
    go_ret
    exact ⟨rfl, by (repeat' (first | (with_reducible exact Below.refl _ _) | (with_reducible assumption) | (with_reducible refine Below.alloc ?_ ?_ _) | (with_reducible refine Below.drew ?_) | (with_reducible refine below_drewN ?_ _) | (with_reducible refine Below.setCell ?_ ?_ _) | (with_reducible refine below_after ?_ ?_ _) | (with_reducible refine below_set ?_) | (with_reducible refine After.size_le _ ?_) | (with_reducible refine size_alloc_le ?_) | (with_reducible refine size_set_le ?_) | (with_reducible refine size_drewN_le ?_) | go_size))⟩
  · obtain ⟨a, cap, rfl, _⟩ := h
    exact stackSums_long a n cap i w hT (by omega)
end Go.Proofs.YtnlcfejjehhedaaDoor
