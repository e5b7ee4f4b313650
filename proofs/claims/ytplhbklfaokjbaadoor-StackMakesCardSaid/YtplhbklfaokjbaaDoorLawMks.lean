/- StackMakes: the law's walk. -/
import Derived.Test.YtplhbklfaokjbaaDoorMakes
namespace Go.Proofs.YtplhbklfaokjbaaDoor
open Go.RowKit
attribute [local go_sem] After.cell After.frozen After.lt After.le After.ne After.ne' After.set_eq After.size_set After.lt_add

set_option maxRecDepth 100000 in
set_option maxHeartbeats 1000000 in
theorem stackMakes_long (a : Option Addr) (n cap : Nat) (c : Nat → Int) (m k t : Int) (w : World) (hT : Tab w) (h : 100 < n) :
    Calls Tryd.prog 8 #[.slice a n cap, cV c, .agg #[.int .i64 m, .int .i64 k, .int .i64 t]] w fun e w' => e = .returned (.bool true) ∧ Below w.heap.size w w' := by
  have HT : Hid (∀ W, Below w.heap.size w W → _) := fun W hW => awake_any W (hT.on hW)
  clear hT
  unfold cV
  have d1 : decide ((100 : Int) < (n : Int)) = true := decide_eq_true (by omega)
  go_enter Tryd.func8, Tryd.ntmps8
  go_wp2_with fail
  refine calls_after (HT.out _ (by (repeat' (first | (with_reducible exact Below.refl _ _) | (with_reducible assumption) | (with_reducible refine Below.alloc ?_ ?_ _) | (with_reducible refine Below.drew ?_) | (with_reducible refine below_drewN ?_ _) | (with_reducible refine Below.setCell ?_ ?_ _) | (with_reducible refine below_after ?_ ?_ _) | (with_reducible refine below_set ?_) | (with_reducible refine After.size_le _ ?_) | (with_reducible refine size_alloc_le ?_) | (with_reducible refine size_set_le ?_) | (with_reducible refine size_drewN_le ?_) | go_size)))) ?_
  intro x1
  go_wp2
  go_ret
  exact ⟨rfl, by (repeat' (first | (with_reducible exact Below.refl _ _) | (with_reducible assumption) | (with_reducible refine Below.alloc ?_ ?_ _) | (with_reducible refine Below.drew ?_) | (with_reducible refine below_drewN ?_ _) | (with_reducible refine Below.setCell ?_ ?_ _) | (with_reducible refine below_after ?_ ?_ _) | (with_reducible refine below_set ?_) | (with_reducible refine After.size_le _ ?_) | (with_reducible refine size_alloc_le ?_) | (with_reducible refine size_set_le ?_) | (with_reducible refine size_drewN_le ?_) | go_size))⟩
set_option maxRecDepth 100000 in
set_option maxHeartbeats 2000000 in
theorem stackMakes_any (v : Value) (n : Nat) (f : Nat → Nat → Int) (c : Nat → Int) (m k t : Int) (w : World) (hT : Tab w) (h : Crs w w.heap.size v n f) (hr : RoomC v n) :
    Calls Tryd.prog 8 #[v, cV c, .agg #[.int .i64 m, .int .i64 k, .int .i64 t]] w fun e w' => e = .returned (.bool true) ∧ Below w.heap.size w w' := by
  by_cases hl : n ≤ 100
  · have hh := h
    obtain ⟨a, cap, rfl, _⟩ := hh
    obtain ⟨m1, g1, e1, hm1, h1, h2⟩ := addeds h (by omega) c
    obtain ⟨m2, g2, e2, hm2, h3, h4⟩ := cuts h hr (by omega) m
    obtain ⟨m3, g3, e3, hm3, h5, h6⟩ := splits h hr (by omega) k t
    have H1 : Hid (∀ W, Below w.heap.size w W → _) := h1
    have H2 : Hid (∀ W, Below w.heap.size w W → _) := h2
    have H3 : Hid (∀ W, Below w.heap.size w W → _) := h3
    have H4 : Hid (∀ W, Below w.heap.size w W → _) := h4
    have H5 : Hid (∀ W, Below w.heap.size w W → _) := h5
    have H6 : Hid (∀ W, Below w.heap.size w W → _) := h6
    have H9 : Hid (∀ W, Below w.heap.size w W → _) := fun W hW => awake_any W (hT.on hW)
    have HM := Lib.hid (And.intro hm1 (And.intro hm2 hm3))
    clear h1 h2 h3 h4 h5 h6 hT h hr hm1 hm2 hm3
    unfold cV at *
    have d1 : decide ((100 : Int) < (n : Int)) = false := decide_eq_false (by omega)
    go_enter Tryd.func8, Tryd.ntmps8
    go_wp2_with fail
    refine (H1.out _ (by (repeat' (first | (with_reducible exact Below.refl _ _) | (with_reducible assumption) | (with_reducible refine Below.alloc ?_ ?_ _) | (with_reducible refine Below.drew ?_) | (with_reducible refine below_drewN ?_ _) | (with_reducible refine Below.setCell ?_ ?_ _) | (with_reducible refine below_after ?_ ?_ _) | (with_reducible refine below_set ?_) | (with_reducible refine After.size_le _ ?_) | (with_reducible refine size_alloc_le ?_) | (with_reducible refine size_set_le ?_) | (with_reducible refine size_drewN_le ?_) | go_size)))).mono ?_
    rintro e w1 ⟨v1, rfl, i1, b1⟩
    have I1 := Lib.hid i1
    obtain ⟨x1, rfl⟩ := after_ofB b1
    clear i1 b1
    have hz_x1 := x1.out.size; (try simp only [World.size_alloc] at hz_x1); (try simp only [World.size_setCell] at hz_x1); (try simp only [World.size_alloc] at hz_x1); have k0_x1 : w.heap.size < x1.w.heap.size := (by omega); have j0_x1 : w.heap.size < x1.w.heap.size + 1 := (by omega); have k1_x1 : w.heap.size + 1 < x1.w.heap.size := (by omega); have j1_x1 : w.heap.size + 1 < x1.w.heap.size + 1 := (by omega)
    go_wp2_with fail
    refine (H2.out _ (by (repeat' (first | (with_reducible exact Below.refl _ _) | (with_reducible assumption) | (with_reducible refine Below.alloc ?_ ?_ _) | (with_reducible refine Below.drew ?_) | (with_reducible refine below_drewN ?_ _) | (with_reducible refine Below.setCell ?_ ?_ _) | (with_reducible refine below_after ?_ ?_ _) | (with_reducible refine below_set ?_) | (with_reducible refine After.size_le _ ?_) | (with_reducible refine size_alloc_le ?_) | (with_reducible refine size_set_le ?_) | (with_reducible refine size_drewN_le ?_) | go_size)))).mono ?_
    rintro e w2 ⟨u1, rfl, i2, b2⟩
    have HS1 := Lib.hid (same_crow (I1.out.on b2) i2 (by have := HM.out.1; omega))
    obtain ⟨x2, rfl⟩ := after_ofB (x1.out.trans (b2.mono x1.out.size))
    clear i2 b2
    have hz_x2 := x2.out.size; (try simp only [World.size_alloc] at hz_x2); (try simp only [World.size_setCell] at hz_x2); (try simp only [World.size_alloc] at hz_x2); have k0_x2 : w.heap.size < x2.w.heap.size := (by omega); have j0_x2 : w.heap.size < x2.w.heap.size + 1 := (by omega); have k1_x2 : w.heap.size + 1 < x2.w.heap.size := (by omega); have j1_x2 : w.heap.size + 1 < x2.w.heap.size + 1 := (by omega)
    (go_wp2_with fail); refine calls_after2 (HS1.out) ?_; intro x3; have hz_x3 := x3.out.size; (try simp only [World.size_alloc] at hz_x3); (try simp only [World.size_setCell] at hz_x3); (try simp only [World.size_alloc] at hz_x3); have k0_x3 : w.heap.size < x3.w.heap.size := (by omega); have j0_x3 : w.heap.size < x3.w.heap.size + 1 := (by omega); have k1_x3 : w.heap.size + 1 < x3.w.heap.size := (by omega); have j1_x3 : w.heap.size + 1 < x3.w.heap.size + 1 := (by omega)
    go_wp2_with fail
    refine (H3.out _ (by (repeat' (first | (with_reducible exact Below.refl _ _) | (with_reducible assumption) | (with_reducible refine Below.alloc ?_ ?_ _) | (with_reducible refine Below.drew ?_) | (with_reducible refine below_drewN ?_ _) | (with_reducible refine Below.setCell ?_ ?_ _) | (with_reducible refine below_after ?_ ?_ _) | (with_reducible refine below_set ?_) | (with_reducible refine After.size_le _ ?_) | (with_reducible refine size_alloc_le ?_) | (with_reducible refine size_set_le ?_) | (with_reducible refine size_drewN_le ?_) | go_size)))).mono ?_
    rintro e w1 ⟨v2, rfl, i1, b1⟩
    have I2 := Lib.hid i1
    obtain ⟨x4, rfl⟩ := after_ofB (x3.out.trans (b1.mono x3.out.size))
    clear i1 b1
    have hz_x4 := x4.out.size; (try simp only [World.size_alloc] at hz_x4); (try simp only [World.size_setCell] at hz_x4); (try simp only [World.size_alloc] at hz_x4); have k0_x4 : w.heap.size < x4.w.heap.size := (by omega); have j0_x4 : w.heap.size < x4.w.heap.size + 1 := (by omega); have k1_x4 : w.heap.size + 1 < x4.w.heap.size := (by omega); have j1_x4 : w.heap.size + 1 < x4.w.heap.size + 1 := (by omega)
    go_wp2_with fail
    refine (H4.out _ (by (repeat' (first | (with_reducible exact Below.refl _ _) | (with_reducible assumption) | (with_reducible refine Below.alloc ?_ ?_ _) | (with_reducible refine Below.drew ?_) | (with_reducible refine below_drewN ?_ _) | (with_reducible refine Below.setCell ?_ ?_ _) | (with_reducible refine below_after ?_ ?_ _) | (with_reducible refine below_set ?_) | (with_reducible refine After.size_le _ ?_) | (with_reducible refine size_alloc_le ?_) | (with_reducible refine size_set_le ?_) | (with_reducible refine size_drewN_le ?_) | go_size)))).mono ?_
    rintro e w2 ⟨u2, rfl, i2, b2⟩
    have HS2 := Lib.hid (same_crow (I2.out.on b2) i2 (by have := HM.out.2.1; omega))
    obtain ⟨x5, rfl⟩ := after_ofB (x4.out.trans (b2.mono x4.out.size))
    clear i2 b2
    have hz_x5 := x5.out.size; (try simp only [World.size_alloc] at hz_x5); (try simp only [World.size_setCell] at hz_x5); (try simp only [World.size_alloc] at hz_x5); have k0_x5 : w.heap.size < x5.w.heap.size := (by omega); have j0_x5 : w.heap.size < x5.w.heap.size + 1 := (by omega); have k1_x5 : w.heap.size + 1 < x5.w.heap.size := (by omega); have j1_x5 : w.heap.size + 1 < x5.w.heap.size + 1 := (by omega)
    (go_wp2_with fail); refine calls_after2 (HS2.out) ?_; intro x6; have hz_x6 := x6.out.size; (try simp only [World.size_alloc] at hz_x6); (try simp only [World.size_setCell] at hz_x6); (try simp only [World.size_alloc] at hz_x6); have k0_x6 : w.heap.size < x6.w.heap.size := (by omega); have j0_x6 : w.heap.size < x6.w.heap.size + 1 := (by omega); have k1_x6 : w.heap.size + 1 < x6.w.heap.size := (by omega); have j1_x6 : w.heap.size + 1 < x6.w.heap.size + 1 := (by omega)
    go_wp2_with fail
    refine (H5.out _ (by (repeat' (first | (with_reducible exact Below.refl _ _) | (with_reducible assumption) | (with_reducible refine Below.alloc ?_ ?_ _) | (with_reducible refine Below.drew ?_) | (with_reducible refine below_drewN ?_ _) | (with_reducible refine Below.setCell ?_ ?_ _) | (with_reducible refine below_after ?_ ?_ _) | (with_reducible refine below_set ?_) | (with_reducible refine After.size_le _ ?_) | (with_reducible refine size_alloc_le ?_) | (with_reducible refine size_set_le ?_) | (with_reducible refine size_drewN_le ?_) | go_size)))).mono ?_
    rintro e w1 ⟨v3, rfl, i1, b1⟩
    have I3 := Lib.hid i1
    obtain ⟨x7, rfl⟩ := after_ofB (x6.out.trans (b1.mono x6.out.size))
    clear i1 b1
    have hz_x7 := x7.out.size; (try simp only [World.size_alloc] at hz_x7); (try simp only [World.size_setCell] at hz_x7); (try simp only [World.size_alloc] at hz_x7); have k0_x7 : w.heap.size < x7.w.heap.size := (by omega); have j0_x7 : w.heap.size < x7.w.heap.size + 1 := (by omega); have k1_x7 : w.heap.size + 1 < x7.w.heap.size := (by omega); have j1_x7 : w.heap.size + 1 < x7.w.heap.size + 1 := (by omega)
    go_wp2_with fail
    refine (H6.out _ (by (repeat' (first | (with_reducible exact Below.refl _ _) | (with_reducible assumption) | (with_reducible refine Below.alloc ?_ ?_ _) | (with_reducible refine Below.drew ?_) | (with_reducible refine below_drewN ?_ _) | (with_reducible refine Below.setCell ?_ ?_ _) | (with_reducible refine below_after ?_ ?_ _) | (with_reducible refine below_set ?_) | (with_reducible refine After.size_le _ ?_) | (with_reducible refine size_alloc_le ?_) | (with_reducible refine size_set_le ?_) | (with_reducible refine size_drewN_le ?_) | go_size)))).mono ?_
    rintro e w2 ⟨u3, rfl, i2, b2⟩
    have HS3 := Lib.hid (same_crow (I3.out.on b2) i2 (by have := HM.out.2.2; omega))
    obtain ⟨x8, rfl⟩ := after_ofB (x7.out.trans (b2.mono x7.out.size))
    clear i2 b2
    have hz_x8 := x8.out.size; (try simp only [World.size_alloc] at hz_x8); (try simp only [World.size_setCell] at hz_x8); (try simp only [World.size_alloc] at hz_x8); have k0_x8 : w.heap.size < x8.w.heap.size := (by omega); have j0_x8 : w.heap.size < x8.w.heap.size + 1 := (by omega); have k1_x8 : w.heap.size + 1 < x8.w.heap.size := (by omega); have j1_x8 : w.heap.size + 1 < x8.w.heap.size + 1 := (by omega)
    (go_wp2_with fail); refine calls_after2 (HS3.out) ?_; intro x9; have hz_x9 := x9.out.size; (try simp only [World.size_alloc] at hz_x9); (try simp only [World.size_setCell] at hz_x9); (try simp only [World.size_alloc] at hz_x9); have k0_x9 : w.heap.size < x9.w.heap.size := (by omega); have j0_x9 : w.heap.size < x9.w.heap.size + 1 := (by omega); have k1_x9 : w.heap.size + 1 < x9.w.heap.size := (by omega); have j1_x9 : w.heap.size + 1 < x9.w.heap.size + 1 := (by omega)
    (go_wp2_with fail); refine calls_after2 (H9.out _ (by (repeat' (first | (with_reducible exact Below.refl _ _) | (with_reducible assumption) | (with_reducible refine Below.alloc ?_ ?_ _) | (with_reducible refine Below.drew ?_) | (with_reducible refine below_drewN ?_ _) | (with_reducible refine Below.setCell ?_ ?_ _) | (with_reducible refine below_after ?_ ?_ _) | (with_reducible refine below_set ?_) | (with_reducible refine After.size_le _ ?_) | (with_reducible refine size_alloc_le ?_) | (with_reducible refine size_set_le ?_) | (with_reducible refine size_drewN_le ?_) | go_size)))) ?_; intro x10
    go_wp2
    go_ret
    exact ⟨rfl, by (repeat' (first | (with_reducible exact Below.refl _ _) | (with_reducible assumption) | (with_reducible refine Below.alloc ?_ ?_ _) | (with_reducible refine Below.drew ?_) | (with_reducible refine below_drewN ?_ _) | (with_reducible refine Below.setCell ?_ ?_ _) | (with_reducible refine below_after ?_ ?_ _) | (with_reducible refine below_set ?_) | (with_reducible refine After.size_le _ ?_) | (with_reducible refine size_alloc_le ?_) | (with_reducible refine size_set_le ?_) | (with_reducible refine size_drewN_le ?_) | go_size))⟩
  · obtain ⟨a, cap, rfl, _⟩ := h
    exact stackMakes_long a n cap c m k t w hT (by omega)
end Go.Proofs.YtplhbklfaokjbaaDoor
