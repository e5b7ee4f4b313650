/- StackTurns: the law's walk. -/
import Derived.Test.YtplhbklfaokjbaaDoorTurnsm
namespace Go.Proofs.YtplhbklfaokjbaaDoor
open Go.RowKit
attribute [local go_sem] After.cell After.frozen After.lt After.le After.ne After.ne' After.set_eq After.size_set After.lt_add

set_option maxRecDepth 100000 in
set_option maxHeartbeats 1000000 in
theorem stackTurns_long (a : Option Addr) (n cap : Nat) (s x y : Int) (w : World) (hT : Tab w) (h : 8 < n ∨ s < 0 ∨ 3 < s) :
    Calls Tryd.prog 10 #[.slice a n cap, .int .i64 s, .agg #[.int .i64 x, .int .i64 y]] w fun e w' => e = .returned (.bool true) ∧ Below w.heap.size w w' := by
  have HT : Hid (∀ W, Below w.heap.size w W → _) := fun W hW => awake_any W (hT.on hW)
  clear hT
  have hz : (decide ((8 : Int) < (n : Int)) = true) ∨ (decide ((8 : Int) < (n : Int)) = false ∧ decide (s < 0) = true) ∨ (decide ((8 : Int) < (n : Int)) = false ∧ decide (s < 0) = false ∧ decide (3 < s) = true) := by
    by_cases h1 : 8 < n
    · exact .inl (decide_eq_true (by omega))
    · by_cases h2 : s < 0
      · exact .inr (.inl ⟨decide_eq_false (by omega), decide_eq_true h2⟩)
      · exact .inr (.inr ⟨decide_eq_false (by omega), decide_eq_false h2, decide_eq_true (by omega)⟩)
  clear h
  rcases hz with d1 | ⟨d1, d2⟩ | ⟨d1, d2, d3⟩
  all_goals
    go_enter Tryd.func10, Tryd.ntmps10
    go_wp2_with fail
    refine calls_after (HT.out _ (by (repeat' (first | (with_reducible exact Below.refl _ _) | (with_reducible assumption) | (with_reducible refine Below.alloc ?_ ?_ _) | (with_reducible refine Below.drew ?_) | (with_reducible refine below_drewN ?_ _) | (with_reducible refine Below.setCell ?_ ?_ _) | (with_reducible refine below_after ?_ ?_ _) | (with_reducible refine below_set ?_) | (with_reducible refine After.size_le _ ?_) | (with_reducible refine size_alloc_le ?_) | (with_reducible refine size_set_le ?_) | (with_reducible refine size_drewN_le ?_) | go_size)))) ?_
    intro x1
    go_wp2
    go_ret
    exact ⟨rfl, by (repeat' (first | (with_reducible exact Below.refl _ _) | (with_reducible assumption) | (with_reducible refine Below.alloc ?_ ?_ _) | (with_reducible refine Below.drew ?_) | (with_reducible refine below_drewN ?_ _) | (with_reducible refine Below.setCell ?_ ?_ _) | (with_reducible refine below_after ?_ ?_ _) | (with_reducible refine below_set ?_) | (with_reducible refine After.size_le _ ?_) | (with_reducible refine size_alloc_le ?_) | (with_reducible refine size_set_le ?_) | (with_reducible refine size_drewN_le ?_) | go_size))⟩
set_option maxRecDepth 100000 in
set_option maxHeartbeats 1000000 in
theorem stackTurns_bad (a : Option Addr) (n cap : Nat) (f : Nat → Nat → Int) (s : Nat) (x y : Int) (w : World) (hT : Tab w) (h8 : n ≤ 8) (hs : s < 4) (h1 : LSay w 38 #[.slice a n cap, .int .i64 s] (.tuple #[.int .i64 0, .int .i64 1])) (h2 : CQSay w 49 #[.slice a n cap, .int .i64 1] 0 f 1) :
    Calls Tryd.prog 10 #[.slice a n cap, .int .i64 s, .agg #[.int .i64 x, .int .i64 y]] w fun e w' => e = .returned (.bool true) ∧ Below w.heap.size w w' := by
  have H9 : Hid (∀ W, Below w.heap.size w W → _) := fun W hW => awake_any W (hT.on hW)
  have H1 : Hid (∀ W, Below w.heap.size w W → _) := h1
  have H2 : Hid (∀ W, Below w.heap.size w W → _) := h2
  clear hT h1 h2
  have d1 : decide ((8 : Int) < (n : Int)) = false := decide_eq_false (by omega)
  have d2 : decide ((s : Int) < 0) = false := decide_eq_false (by omega)
  have d3 : decide ((3 : Int) < (s : Int)) = false := decide_eq_false (by omega)
  go_enter Tryd.func10, Tryd.ntmps10
  (go_wp2_with fail); refine calls_after (H1.out _ (by (repeat' (first | (with_reducible exact Below.refl _ _) | (with_reducible assumption) | (with_reducible refine Below.alloc ?_ ?_ _) | (with_reducible refine Below.drew ?_) | (with_reducible refine below_drewN ?_ _) | (with_reducible refine Below.setCell ?_ ?_ _) | (with_reducible refine below_after ?_ ?_ _) | (with_reducible refine below_set ?_) | (with_reducible refine After.size_le _ ?_) | (with_reducible refine size_alloc_le ?_) | (with_reducible refine size_set_le ?_) | (with_reducible refine size_drewN_le ?_) | go_size)))) ?_; intro x1; have hz_x1 := x1.out.size; (try simp only [World.size_alloc] at hz_x1); (try simp only [World.size_setCell] at hz_x1); (try simp only [World.size_alloc] at hz_x1); have k0_x1 : w.heap.size < x1.w.heap.size := (by omega); have j0_x1 : w.heap.size < x1.w.heap.size + 1 := (by omega)
  go_wp2_with fail
  refine (H2.out _ (by (repeat' (first | (with_reducible exact Below.refl _ _) | (with_reducible assumption) | (with_reducible refine Below.alloc ?_ ?_ _) | (with_reducible refine Below.drew ?_) | (with_reducible refine below_drewN ?_ _) | (with_reducible refine Below.setCell ?_ ?_ _) | (with_reducible refine below_after ?_ ?_ _) | (with_reducible refine below_set ?_) | (with_reducible refine After.size_le _ ?_) | (with_reducible refine size_alloc_le ?_) | (with_reducible refine size_set_le ?_) | (with_reducible refine size_drewN_le ?_) | go_size)))).mono ?_
  rintro e w1 ⟨v1, rfl, i1, b1⟩
  obtain ⟨x2, rfl⟩ := after_ofB (x1.out.trans (b1.mono x1.out.size))
  clear i1 b1
  have hz_x2 := x2.out.size; (try simp only [World.size_alloc] at hz_x2); (try simp only [World.size_setCell] at hz_x2); (try simp only [World.size_alloc] at hz_x2); have k0_x2 : w.heap.size < x2.w.heap.size := (by omega); have j0_x2 : w.heap.size < x2.w.heap.size + 1 := (by omega)
  (go_wp2_with fail); refine calls_after2 (H9.out _ (by (repeat' (first | (with_reducible exact Below.refl _ _) | (with_reducible assumption) | (with_reducible refine Below.alloc ?_ ?_ _) | (with_reducible refine Below.drew ?_) | (with_reducible refine below_drewN ?_ _) | (with_reducible refine Below.setCell ?_ ?_ _) | (with_reducible refine below_after ?_ ?_ _) | (with_reducible refine below_set ?_) | (with_reducible refine After.size_le _ ?_) | (with_reducible refine size_alloc_le ?_) | (with_reducible refine size_set_le ?_) | (with_reducible refine size_drewN_le ?_) | go_size)))) ?_; intro x3
  go_wp2
  go_ret
  exact ⟨rfl, by (repeat' (first | (with_reducible exact Below.refl _ _) | (with_reducible assumption) | (with_reducible refine Below.alloc ?_ ?_ _) | (with_reducible refine Below.drew ?_) | (with_reducible refine below_drewN ?_ _) | (with_reducible refine Below.setCell ?_ ?_ _) | (with_reducible refine below_after ?_ ?_ _) | (with_reducible refine below_set ?_) | (with_reducible refine After.size_le _ ?_) | (with_reducible refine size_alloc_le ?_) | (with_reducible refine size_set_le ?_) | (with_reducible refine size_drewN_le ?_) | go_size))⟩
set_option maxRecDepth 100000 in
set_option maxHeartbeats 2000000 in
theorem stackTurns_ok (a : Option Addr) (n cap : Nat) (f f1 f2 : Nat → Nat → Int) (s : Nat) (V : Nat) (E : Int) (x y : Int) (w : World) (hT : Tab w) (h8 : n ≤ 8) (hs : s < 4) (h1 : LSay w 38 #[.slice a n cap, .int .i64 s] (.tuple #[.int .i64 V, .int .i64 E]))
    (h2 : CQSay w 49 #[.slice a n cap, .int .i64 1] n f1 0)
    (h3 : ∀ W a' cap', Below w.heap.size w W → Crs W W.heap.size (.slice a' n cap') n f1 → Calls Tryd.prog 38 #[.slice a' n cap', .int .i64 ((s + 1) % 4 : Nat)] W fun e w' => e = .returned (.tuple #[.int .i64 V, .int .i64 E]) ∧ Below W.heap.size W w')
    (h4 : (∃ e : Int, (e == 0) = false ∧ CQSay w 51 #[.slice a n cap, .int .i64 x, .int .i64 y] 0 f e) ∨ (CQSay w 51 #[.slice a n cap, .int .i64 x, .int .i64 y] n f2 0 ∧
      ∀ W a' cap', Below w.heap.size w W → Crs W W.heap.size (.slice a' n cap') n f2 → Calls Tryd.prog 38 #[.slice a' n cap', .int .i64 (s : Nat)] W fun e w' => e = .returned (.tuple #[.int .i64 V, .int .i64 E]) ∧ Below W.heap.size W w')) :
    Calls Tryd.prog 10 #[.slice a n cap, .int .i64 s, .agg #[.int .i64 x, .int .i64 y]] w fun e w' => e = .returned (.bool true) ∧ Below w.heap.size w w' := by
  have H9 : Hid (∀ W, Below w.heap.size w W → _) := fun W hW => awake_any W (hT.on hW)
  have H1 : Hid (∀ W, Below w.heap.size w W → _) := h1
  have H2 : Hid (∀ W, Below w.heap.size w W → _) := h2
  have H3 := Lib.hid h3
  have HQ : Hid (bits .and .i64 ((s : Int) + 1) 3 = (((s + 1) % 4 : Nat) : Int)) := Lib.hid (by rw [i64_and3]; omega)
  clear hT h1 h2 h3
  have d1 : decide ((8 : Int) < (n : Int)) = false := decide_eq_false (by omega)
  have d2 : decide ((s : Int) < 0) = false := decide_eq_false (by omega)
  have d3 : decide ((3 : Int) < (s : Int)) = false := decide_eq_false (by omega)
  generalize (s + 1) % 4 = t at *
  rcases h4 with ⟨e, he, h4⟩ | ⟨h4, h5⟩
  · have H4 : Hid (∀ W, Below w.heap.size w W → _) := h4
    clear h4
    go_enter Tryd.func10, Tryd.ntmps10
    (go_wp2_with fail); refine calls_after (H1.out _ (by (repeat' (first | (with_reducible exact Below.refl _ _) | (with_reducible assumption) | (with_reducible refine Below.alloc ?_ ?_ _) | (with_reducible refine Below.drew ?_) | (with_reducible refine below_drewN ?_ _) | (with_reducible refine Below.setCell ?_ ?_ _) | (with_reducible refine below_after ?_ ?_ _) | (with_reducible refine below_set ?_) | (with_reducible refine After.size_le _ ?_) | (with_reducible refine size_alloc_le ?_) | (with_reducible refine size_set_le ?_) | (with_reducible refine size_drewN_le ?_) | go_size)))) ?_; intro x1; have hz_x1 := x1.out.size; (try simp only [World.size_alloc] at hz_x1); (try simp only [World.size_setCell] at hz_x1); (try simp only [World.size_alloc] at hz_x1); have k0_x1 : w.heap.size < x1.w.heap.size := (by omega); have j0_x1 : w.heap.size < x1.w.heap.size + 1 := (by omega)
    go_wp2_with fail
    refine (H2.out _ (by (repeat' (first | (with_reducible exact Below.refl _ _) | (with_reducible assumption) | (with_reducible refine Below.alloc ?_ ?_ _) | (with_reducible refine Below.drew ?_) | (with_reducible refine below_drewN ?_ _) | (with_reducible refine Below.setCell ?_ ?_ _) | (with_reducible refine below_after ?_ ?_ _) | (with_reducible refine below_set ?_) | (with_reducible refine After.size_le _ ?_) | (with_reducible refine size_alloc_le ?_) | (with_reducible refine size_set_le ?_) | (with_reducible refine size_drewN_le ?_) | go_size)))).mono ?_
    rintro e w1 ⟨v1, rfl, i1, b1⟩
    have I1 := Lib.hid i1.crs
    obtain ⟨a1, c1, rfl, -⟩ := i1
    obtain ⟨x2, rfl⟩ := after_ofB (x1.out.trans (b1.mono x1.out.size))
    clear b1
    have hz_x2 := x2.out.size; (try simp only [World.size_alloc] at hz_x2); (try simp only [World.size_setCell] at hz_x2); (try simp only [World.size_alloc] at hz_x2); have k0_x2 : w.heap.size < x2.w.heap.size := (by omega); have j0_x2 : w.heap.size < x2.w.heap.size + 1 := (by omega)
    go_wp2_with fail
    rw [HQ.out]
    refine calls_after2 (H3.out _ _ _ (by (repeat' (first | (with_reducible exact Below.refl _ _) | (with_reducible assumption) | (with_reducible refine Below.alloc ?_ ?_ _) | (with_reducible refine Below.drew ?_) | (with_reducible refine below_drewN ?_ _) | (with_reducible refine Below.setCell ?_ ?_ _) | (with_reducible refine below_after ?_ ?_ _) | (with_reducible refine below_set ?_) | (with_reducible refine After.size_le _ ?_) | (with_reducible refine size_alloc_le ?_) | (with_reducible refine size_set_le ?_) | (with_reducible refine size_drewN_le ?_) | go_size))) (I1.out.on (by (repeat' (first | (with_reducible exact Below.refl _ _) | (with_reducible assumption) | (with_reducible refine Below.alloc ?_ ?_ _) | (with_reducible refine Below.drew ?_) | (with_reducible refine below_drewN ?_ _) | (with_reducible refine Below.setCell ?_ ?_ _) | (with_reducible refine below_after ?_ ?_ _) | (with_reducible refine below_set ?_) | (with_reducible refine After.size_le _ ?_) | (with_reducible refine size_alloc_le ?_) | (with_reducible refine size_set_le ?_) | (with_reducible refine size_drewN_le ?_) | go_size))))) ?_
    intro x3
    have hz_x3 := x3.out.size; (try simp only [World.size_alloc] at hz_x3); (try simp only [World.size_setCell] at hz_x3); (try simp only [World.size_alloc] at hz_x3); have k0_x3 : w.heap.size < x3.w.heap.size := (by omega); have j0_x3 : w.heap.size < x3.w.heap.size + 1 := (by omega)
    go_wp2_with fail
    refine (H4.out _ (by (repeat' (first | (with_reducible exact Below.refl _ _) | (with_reducible assumption) | (with_reducible refine Below.alloc ?_ ?_ _) | (with_reducible refine Below.drew ?_) | (with_reducible refine below_drewN ?_ _) | (with_reducible refine Below.setCell ?_ ?_ _) | (with_reducible refine below_after ?_ ?_ _) | (with_reducible refine below_set ?_) | (with_reducible refine After.size_le _ ?_) | (with_reducible refine size_alloc_le ?_) | (with_reducible refine size_set_le ?_) | (with_reducible refine size_drewN_le ?_) | go_size)))).mono ?_
    rintro e w1 ⟨v1, rfl, i1, b1⟩
    obtain ⟨x4, rfl⟩ := after_ofB (x3.out.trans (b1.mono x3.out.size))
    clear i1 b1
    have hz_x4 := x4.out.size; (try simp only [World.size_alloc] at hz_x4); (try simp only [World.size_setCell] at hz_x4); (try simp only [World.size_alloc] at hz_x4); have k0_x4 : w.heap.size < x4.w.heap.size := (by omega); have j0_x4 : w.heap.size < x4.w.heap.size + 1 := (by omega)
    (go_wp2_with fail); refine calls_after2 (H9.out _ (by (repeat' (first | (with_reducible exact Below.refl _ _) | (with_reducible assumption) | (with_reducible refine Below.alloc ?_ ?_ _) | (with_reducible refine Below.drew ?_) | (with_reducible refine below_drewN ?_ _) | (with_reducible refine Below.setCell ?_ ?_ _) | (with_reducible refine below_after ?_ ?_ _) | (with_reducible refine below_set ?_) | (with_reducible refine After.size_le _ ?_) | (with_reducible refine size_alloc_le ?_) | (with_reducible refine size_set_le ?_) | (with_reducible refine size_drewN_le ?_) | go_size)))) ?_; intro x5
    go_wp2
    go_ret
    exact ⟨rfl, by (repeat' (first | (with_reducible exact Below.refl _ _) | (with_reducible assumption) | (with_reducible refine Below.alloc ?_ ?_ _) | (with_reducible refine Below.drew ?_) | (with_reducible refine below_drewN ?_ _) | (with_reducible refine Below.setCell ?_ ?_ _) | (with_reducible refine below_after ?_ ?_ _) | (with_reducible refine below_set ?_) | (with_reducible refine After.size_le _ ?_) | (with_reducible refine size_alloc_le ?_) | (with_reducible refine size_set_le ?_) | (with_reducible refine size_drewN_le ?_) | go_size))⟩
  · have H4 : Hid (∀ W, Below w.heap.size w W → _) := h4
    have H5 := Lib.hid h5
    clear h4 h5
    go_enter Tryd.func10, Tryd.ntmps10
    (go_wp2_with fail); refine calls_after (H1.out _ (by (repeat' (first | (with_reducible exact Below.refl _ _) | (with_reducible assumption) | (with_reducible refine Below.alloc ?_ ?_ _) | (with_reducible refine Below.drew ?_) | (with_reducible refine below_drewN ?_ _) | (with_reducible refine Below.setCell ?_ ?_ _) | (with_reducible refine below_after ?_ ?_ _) | (with_reducible refine below_set ?_) | (with_reducible refine After.size_le _ ?_) | (with_reducible refine size_alloc_le ?_) | (with_reducible refine size_set_le ?_) | (with_reducible refine size_drewN_le ?_) | go_size)))) ?_; intro x1; have hz_x1 := x1.out.size; (try simp only [World.size_alloc] at hz_x1); (try simp only [World.size_setCell] at hz_x1); (try simp only [World.size_alloc] at hz_x1); have k0_x1 : w.heap.size < x1.w.heap.size := (by omega); have j0_x1 : w.heap.size < x1.w.heap.size + 1 := (by omega)
    go_wp2_with fail
    refine (H2.out _ (by (repeat' (first | (with_reducible exact Below.refl _ _) | (with_reducible assumption) | (with_reducible refine Below.alloc ?_ ?_ _) | (with_reducible refine Below.drew ?_) | (with_reducible refine below_drewN ?_ _) | (with_reducible refine Below.setCell ?_ ?_ _) | (with_reducible refine below_after ?_ ?_ _) | (with_reducible refine below_set ?_) | (with_reducible refine After.size_le _ ?_) | (with_reducible refine size_alloc_le ?_) | (with_reducible refine size_set_le ?_) | (with_reducible refine size_drewN_le ?_) | go_size)))).mono ?_
    rintro e w1 ⟨v1, rfl, i1, b1⟩
    have I1 := Lib.hid i1.crs
    obtain ⟨a1, c1, rfl, -⟩ := i1
    obtain ⟨x2, rfl⟩ := after_ofB (x1.out.trans (b1.mono x1.out.size))
    clear b1
    have hz_x2 := x2.out.size; (try simp only [World.size_alloc] at hz_x2); (try simp only [World.size_setCell] at hz_x2); (try simp only [World.size_alloc] at hz_x2); have k0_x2 : w.heap.size < x2.w.heap.size := (by omega); have j0_x2 : w.heap.size < x2.w.heap.size + 1 := (by omega)
    go_wp2_with fail
    rw [HQ.out]
    refine calls_after2 (H3.out _ _ _ (by (repeat' (first | (with_reducible exact Below.refl _ _) | (with_reducible assumption) | (with_reducible refine Below.alloc ?_ ?_ _) | (with_reducible refine Below.drew ?_) | (with_reducible refine below_drewN ?_ _) | (with_reducible refine Below.setCell ?_ ?_ _) | (with_reducible refine below_after ?_ ?_ _) | (with_reducible refine below_set ?_) | (with_reducible refine After.size_le _ ?_) | (with_reducible refine size_alloc_le ?_) | (with_reducible refine size_set_le ?_) | (with_reducible refine size_drewN_le ?_) | go_size))) (I1.out.on (by (repeat' (first | (with_reducible exact Below.refl _ _) | (with_reducible assumption) | (with_reducible refine Below.alloc ?_ ?_ _) | (with_reducible refine Below.drew ?_) | (with_reducible refine below_drewN ?_ _) | (with_reducible refine Below.setCell ?_ ?_ _) | (with_reducible refine below_after ?_ ?_ _) | (with_reducible refine below_set ?_) | (with_reducible refine After.size_le _ ?_) | (with_reducible refine size_alloc_le ?_) | (with_reducible refine size_set_le ?_) | (with_reducible refine size_drewN_le ?_) | go_size))))) ?_
    intro x3
    have hz_x3 := x3.out.size; (try simp only [World.size_alloc] at hz_x3); (try simp only [World.size_setCell] at hz_x3); (try simp only [World.size_alloc] at hz_x3); have k0_x3 : w.heap.size < x3.w.heap.size := (by omega); have j0_x3 : w.heap.size < x3.w.heap.size + 1 := (by omega)
    go_wp2_with fail
    refine (H4.out _ (by (repeat' (first | (with_reducible exact Below.refl _ _) | (with_reducible assumption) | (with_reducible refine Below.alloc ?_ ?_ _) | (with_reducible refine Below.drew ?_) | (with_reducible refine below_drewN ?_ _) | (with_reducible refine Below.setCell ?_ ?_ _) | (with_reducible refine below_after ?_ ?_ _) | (with_reducible refine below_set ?_) | (with_reducible refine After.size_le _ ?_) | (with_reducible refine size_alloc_le ?_) | (with_reducible refine size_set_le ?_) | (with_reducible refine size_drewN_le ?_) | go_size)))).mono ?_
    rintro e w1 ⟨v2, rfl, i2, b2⟩
    have I2 := Lib.hid i2.crs
    obtain ⟨a2, c2, rfl, -⟩ := i2
    obtain ⟨x4, rfl⟩ := after_ofB (x3.out.trans (b2.mono x3.out.size))
    clear b2
    have hz_x4 := x4.out.size; (try simp only [World.size_alloc] at hz_x4); (try simp only [World.size_setCell] at hz_x4); (try simp only [World.size_alloc] at hz_x4); have k0_x4 : w.heap.size < x4.w.heap.size := (by omega); have j0_x4 : w.heap.size < x4.w.heap.size + 1 := (by omega)
    go_wp2_with fail
    refine calls_after2 (H5.out _ _ _ (by (repeat' (first | (with_reducible exact Below.refl _ _) | (with_reducible assumption) | (with_reducible refine Below.alloc ?_ ?_ _) | (with_reducible refine Below.drew ?_) | (with_reducible refine below_drewN ?_ _) | (with_reducible refine Below.setCell ?_ ?_ _) | (with_reducible refine below_after ?_ ?_ _) | (with_reducible refine below_set ?_) | (with_reducible refine After.size_le _ ?_) | (with_reducible refine size_alloc_le ?_) | (with_reducible refine size_set_le ?_) | (with_reducible refine size_drewN_le ?_) | go_size))) (I2.out.on (by (repeat' (first | (with_reducible exact Below.refl _ _) | (with_reducible assumption) | (with_reducible refine Below.alloc ?_ ?_ _) | (with_reducible refine Below.drew ?_) | (with_reducible refine below_drewN ?_ _) | (with_reducible refine Below.setCell ?_ ?_ _) | (with_reducible refine below_after ?_ ?_ _) | (with_reducible refine below_set ?_) | (with_reducible refine After.size_le _ ?_) | (with_reducible refine size_alloc_le ?_) | (with_reducible refine size_set_le ?_) | (with_reducible refine size_drewN_le ?_) | go_size))))) ?_
    intro x5
    have hz_x5 := x5.out.size; (try simp only [World.size_alloc] at hz_x5); (try simp only [World.size_setCell] at hz_x5); (try simp only [World.size_alloc] at hz_x5); have k0_x5 : w.heap.size < x5.w.heap.size := (by omega); have j0_x5 : w.heap.size < x5.w.heap.size + 1 := (by omega)
    (go_wp2_with fail); refine calls_after2 (H9.out _ (by (repeat' (first | (with_reducible exact Below.refl _ _) | (with_reducible assumption) | (with_reducible refine Below.alloc ?_ ?_ _) | (with_reducible refine Below.drew ?_) | (with_reducible refine below_drewN ?_ _) | (with_reducible refine Below.setCell ?_ ?_ _) | (with_reducible refine below_after ?_ ?_ _) | (with_reducible refine below_set ?_) | (with_reducible refine After.size_le _ ?_) | (with_reducible refine size_alloc_le ?_) | (with_reducible refine size_set_le ?_) | (with_reducible refine size_drewN_le ?_) | go_size)))) ?_; intro x6
    go_wp2
    go_ret
    exact ⟨rfl, by (repeat' (first | (with_reducible exact Below.refl _ _) | (with_reducible assumption) | (with_reducible refine Below.alloc ?_ ?_ _) | (with_reducible refine Below.drew ?_) | (with_reducible refine below_drewN ?_ _) | (with_reducible refine Below.setCell ?_ ?_ _) | (with_reducible refine below_after ?_ ?_ _) | (with_reducible refine below_set ?_) | (with_reducible refine After.size_le _ ?_) | (with_reducible refine size_alloc_le ?_) | (with_reducible refine size_set_le ?_) | (with_reducible refine size_drewN_le ?_) | go_size))⟩
theorem stackTurns_any (v : Value) (n : Nat) (f : Nat → Nat → Int) (s x y : Int) (w : World) (hT : Tab w) (h : Crs w w.heap.size v n f) :
    Calls Tryd.prog 10 #[v, .int .i64 s, .agg #[.int .i64 x, .int .i64 y]] w fun e w' => e = .returned (.bool true) ∧ Below w.heap.size w w' := by
  have hh := h
  obtain ⟨a, cap, rfl, _⟩ := hh
  by_cases hl : 8 < n ∨ s < 0 ∨ 3 < s
  · exact stackTurns_long a n cap s x y w hT hl
  · obtain ⟨s, rfl⟩ := Int.eq_ofNat_of_zero_le (show 0 ≤ s by omega)
    by_cases hG : GoodC n f
    · have h1 := (safe_good hT h (by omega) hG s (by omega)).1
      have h2 := (turned_good h hG 1 (by omega) (by omega)).1
      have hr := sa_rot f n (s := s) (by omega)
      refine stackTurns_ok a n cap f (rotC f) (shC f x y) s (saV f n s) (saE f n s) x y w hT (by omega) (by omega) h1 h2 (fun W a' cap' hB hc => ?_) ?_
      · have := (safe_good (hT.on hB) hc (by omega) hG.rot ((s + 1) % 4) (by omega)).1 W (Below.refl _ _)
        rwa [hr.1, hr.2] at this
      · by_cases hok : ShIn x y ∧ ShOk n f x y
        · have hsh := sa_sh f n s x y
          refine .inr ⟨(shifted_good h hG x y hok.1 hok.2).1, fun W a' cap' hB hc => ?_⟩
          have := (safe_good (hT.on hB) hc (by omega) ((shOk_good hG).2 hok.2) s (by omega)).1 W (Below.refl _ _)
          rwa [hsh.1, hsh.2] at this
        · obtain ⟨e, he, h4, -⟩ := shifted_wrong h (by omega) x y (fun h => hok h.2)
          exact .inl ⟨e, he, h4⟩
    · obtain ⟨e, -, he, h1, -⟩ := safe_wrong h (by omega) (s : Nat) (fun h => hG h.1)
      obtain rfl := he hG
      exact stackTurns_bad a n cap f s x y w hT (by omega) (by omega) h1 (turned_wrong h (by omega) hG 1).1
end Go.Proofs.YtplhbklfaokjbaaDoor
