/- StackSplits: the law's walk. -/
import Derived.Test.YtplhbklfaokjbaaDoorSplitn
namespace Go.Proofs.YtplhbklfaokjbaaDoor
open Go.RowKit
attribute [local go_sem 10000] eql_ratio neq_ratio
attribute [local go_sem] After.cell After.frozen After.lt After.le After.ne After.ne' After.set_eq After.size_set After.lt_add eq2_self

set_option maxRecDepth 100000 in
set_option maxHeartbeats 1000000 in
theorem stackSplits_long (a : Option Addr) (n cap : Nat) (k t i : Int) (w : World) (hT : Tab w) (h : 60 < n) :
    Calls Tryd.prog 13 #[.slice a n cap, .agg #[.int .i64 k, .int .i64 t, .int .i64 i]] w fun e w' => e = .returned (.bool true) ∧ Below w.heap.size w w' := by
  have HT : Hid (∀ W, Below w.heap.size w W → _) := fun W hW => awake_any W (hT.on hW)
  clear hT
  have d1 : decide ((60 : Int) < (n : Int)) = true := decide_eq_true (by omega)
  go_enter Tryd.func13, Tryd.ntmps13
  go_wp2_with fail
  refine calls_after (HT.out _ (by (repeat' (first | (with_reducible exact Below.refl _ _) | (with_reducible assumption) | (with_reducible refine Below.alloc ?_ ?_ _) | (with_reducible refine Below.drew ?_) | (with_reducible refine below_drewN ?_ _) | (with_reducible refine Below.setCell ?_ ?_ _) | (with_reducible refine below_after ?_ ?_ _) | (with_reducible refine below_set ?_) | (with_reducible refine After.size_le _ ?_) | (with_reducible refine size_alloc_le ?_) | (with_reducible refine size_set_le ?_) | (with_reducible refine size_drewN_le ?_) | go_size)))) ?_
  intro x1
  go_wp2
  go_ret
  exact ⟨rfl, by (repeat' (first | (with_reducible exact Below.refl _ _) | (with_reducible assumption) | (with_reducible refine Below.alloc ?_ ?_ _) | (with_reducible refine Below.drew ?_) | (with_reducible refine below_drewN ?_ _) | (with_reducible refine Below.setCell ?_ ?_ _) | (with_reducible refine below_after ?_ ?_ _) | (with_reducible refine below_set ?_) | (with_reducible refine After.size_le _ ?_) | (with_reducible refine size_alloc_le ?_) | (with_reducible refine size_set_le ?_) | (with_reducible refine size_drewN_le ?_) | go_size))⟩
set_option maxRecDepth 100000 in
set_option maxHeartbeats 1000000 in
theorem stackSplits_err (a : Option Addr) (n cap : Nat) (f : Nat → Nat → Int) (k t i e : Int) (w : World) (hT : Tab w) (h : n ≤ 60) (he : (e == 0) = false) (hS : CQSay w 47 #[.slice a n cap, .int .i64 k, .int .i64 t] 0 f e) :
    Calls Tryd.prog 13 #[.slice a n cap, .agg #[.int .i64 k, .int .i64 t, .int .i64 i]] w fun e w' => e = .returned (.bool true) ∧ Below w.heap.size w w' := by
  have H9 : Hid (∀ W, Below w.heap.size w W → _) := fun W hW => awake_any W (hT.on hW)
  have H1 : Hid (∀ W, Below w.heap.size w W → _) := hS
  clear hT hS
  have d1 : decide ((60 : Int) < (n : Int)) = false := decide_eq_false (by omega)
  go_enter Tryd.func13, Tryd.ntmps13
  go_wp2_with fail
  refine (H1.out _ (by (repeat' (first | (with_reducible exact Below.refl _ _) | (with_reducible assumption) | (with_reducible refine Below.alloc ?_ ?_ _) | (with_reducible refine Below.drew ?_) | (with_reducible refine below_drewN ?_ _) | (with_reducible refine Below.setCell ?_ ?_ _) | (with_reducible refine below_after ?_ ?_ _) | (with_reducible refine below_set ?_) | (with_reducible refine After.size_le _ ?_) | (with_reducible refine size_alloc_le ?_) | (with_reducible refine size_set_le ?_) | (with_reducible refine size_drewN_le ?_) | go_size)))).mono ?_
  rintro e w1 ⟨v1, rfl, i1, b1⟩
  obtain ⟨x1, rfl⟩ := after_ofB b1
  clear i1 b1
  have hz_x1 := x1.out.size; (try simp only [World.size_alloc] at hz_x1); (try simp only [World.size_setCell] at hz_x1); (try simp only [World.size_alloc] at hz_x1); have k0_x1 : w.heap.size < x1.w.heap.size := (by omega); have j0_x1 : w.heap.size < x1.w.heap.size + 1 := (by omega)
  (go_wp2_with fail); refine calls_after2 (H9.out _ (by (repeat' (first | (with_reducible exact Below.refl _ _) | (with_reducible assumption) | (with_reducible refine Below.alloc ?_ ?_ _) | (with_reducible refine Below.drew ?_) | (with_reducible refine below_drewN ?_ _) | (with_reducible refine Below.setCell ?_ ?_ _) | (with_reducible refine below_after ?_ ?_ _) | (with_reducible refine below_set ?_) | (with_reducible refine After.size_le _ ?_) | (with_reducible refine size_alloc_le ?_) | (with_reducible refine size_set_le ?_) | (with_reducible refine size_drewN_le ?_) | go_size)))) ?_; intro x2
  go_wp2
  go_ret
  exact ⟨rfl, by (repeat' (first | (with_reducible exact Below.refl _ _) | (with_reducible assumption) | (with_reducible refine Below.alloc ?_ ?_ _) | (with_reducible refine Below.drew ?_) | (with_reducible refine below_drewN ?_ _) | (with_reducible refine Below.setCell ?_ ?_ _) | (with_reducible refine below_after ?_ ?_ _) | (with_reducible refine below_set ?_) | (with_reducible refine After.size_le _ ?_) | (with_reducible refine size_alloc_le ?_) | (with_reducible refine size_set_le ?_) | (with_reducible refine size_drewN_le ?_) | go_size))⟩
set_option maxRecDepth 100000 in
set_option maxHeartbeats 1000000 in
theorem stackSplits_far (a : Option Addr) (n cap : Nat) (g : Nat → Nat → Int) (k : Nat) (t i : Int) (w : World) (hT : Tab w) (h : n ≤ 60) (hk : k < n) (hi : i < 0 ∨ n ≤ i) (hS : CQSay w 47 #[.slice a n cap, .int .i64 (k : Nat), .int .i64 t] (n + 1) g 0) :
    Calls Tryd.prog 13 #[.slice a n cap, .agg #[.int .i64 (k : Nat), .int .i64 t, .int .i64 i]] w fun e w' => e = .returned (.bool true) ∧ Below w.heap.size w w' := by
  have H9 : Hid (∀ W, Below w.heap.size w W → _) := fun W hW => awake_any W (hT.on hW)
  have H1 : Hid (∀ W, Below w.heap.size w W → _) := hS
  clear hT hS
  have d1 : decide ((60 : Int) < (n : Int)) = false := decide_eq_false (by omega)
  have d2 : decide (((k : Nat) : Int) < 0) = false := decide_eq_false (by omega)
  have d3 : decide ((n : Int) ≤ ((k : Nat) : Int)) = false := decide_eq_false (by omega)
  have d4 : ((((n + 1 : Nat)) : Int) != (n : Int) + 1) = false := by simp
  have d5 : ((((n + 1 : Nat)) : Int) == (n : Int) + 1) = true := by simp
  have d6 : ((n : Int) + 1 != (n : Int) + 1) = false := by simp
  have d7 : ((n : Int) + 1 == (n : Int) + 1) = true := by simp
  have hnn : (n : Int) + 1 ≤ 61 := by omega
  have hz : decide (i < 0) = true ∨ (decide (i < 0) = false ∧ decide ((n : Int) ≤ i) = true) := by
    rcases hi with h | h
    · exact .inl (decide_eq_true h)
    · exact .inr ⟨decide_eq_false (by omega), decide_eq_true h⟩
  clear hi
  rcases hz with e1 | ⟨e1, e2⟩
  · skip
    go_enter Tryd.func13, Tryd.ntmps13
    go_wp2_with fail
    refine (H1.out _ (by (repeat' (first | (with_reducible exact Below.refl _ _) | (with_reducible assumption) | (with_reducible refine Below.alloc ?_ ?_ _) | (with_reducible refine Below.drew ?_) | (with_reducible refine below_drewN ?_ _) | (with_reducible refine Below.setCell ?_ ?_ _) | (with_reducible refine below_after ?_ ?_ _) | (with_reducible refine below_set ?_) | (with_reducible refine After.size_le _ ?_) | (with_reducible refine size_alloc_le ?_) | (with_reducible refine size_set_le ?_) | (with_reducible refine size_drewN_le ?_) | go_size)))).mono ?_
    rintro e w1 ⟨v1, rfl, i1, b1⟩
    have I1 := Lib.hid i1.crs
    obtain ⟨a1, c1, rfl, -⟩ := i1
    obtain ⟨x1, rfl⟩ := after_ofB b1
    clear b1
    have hz_x1 := x1.out.size; (try simp only [World.size_alloc] at hz_x1); (try simp only [World.size_setCell] at hz_x1); (try simp only [World.size_alloc] at hz_x1); have k0_x1 : w.heap.size < x1.w.heap.size := (by omega); have j0_x1 : w.heap.size < x1.w.heap.size + 1 := (by omega)
    (go_wp2_with fail); refine calls_after2 (H9.out _ (by (repeat' (first | (with_reducible exact Below.refl _ _) | (with_reducible assumption) | (with_reducible refine Below.alloc ?_ ?_ _) | (with_reducible refine Below.drew ?_) | (with_reducible refine below_drewN ?_ _) | (with_reducible refine Below.setCell ?_ ?_ _) | (with_reducible refine below_after ?_ ?_ _) | (with_reducible refine below_set ?_) | (with_reducible refine After.size_le _ ?_) | (with_reducible refine size_alloc_le ?_) | (with_reducible refine size_set_le ?_) | (with_reducible refine size_drewN_le ?_) | go_size)))) ?_; intro x2
    go_wp2
    go_ret
    exact ⟨rfl, by (repeat' (first | (with_reducible exact Below.refl _ _) | (with_reducible assumption) | (with_reducible refine Below.alloc ?_ ?_ _) | (with_reducible refine Below.drew ?_) | (with_reducible refine below_drewN ?_ _) | (with_reducible refine Below.setCell ?_ ?_ _) | (with_reducible refine below_after ?_ ?_ _) | (with_reducible refine below_set ?_) | (with_reducible refine After.size_le _ ?_) | (with_reducible refine size_alloc_le ?_) | (with_reducible refine size_set_le ?_) | (with_reducible refine size_drewN_le ?_) | go_size))⟩
  · skip
    go_enter Tryd.func13, Tryd.ntmps13
    go_wp2_with fail
    refine (H1.out _ (by (repeat' (first | (with_reducible exact Below.refl _ _) | (with_reducible assumption) | (with_reducible refine Below.alloc ?_ ?_ _) | (with_reducible refine Below.drew ?_) | (with_reducible refine below_drewN ?_ _) | (with_reducible refine Below.setCell ?_ ?_ _) | (with_reducible refine below_after ?_ ?_ _) | (with_reducible refine below_set ?_) | (with_reducible refine After.size_le _ ?_) | (with_reducible refine size_alloc_le ?_) | (with_reducible refine size_set_le ?_) | (with_reducible refine size_drewN_le ?_) | go_size)))).mono ?_
    rintro e w1 ⟨v1, rfl, i1, b1⟩
    have I1 := Lib.hid i1.crs
    obtain ⟨a1, c1, rfl, -⟩ := i1
    obtain ⟨x1, rfl⟩ := after_ofB b1
    clear b1
    have hz_x1 := x1.out.size; (try simp only [World.size_alloc] at hz_x1); (try simp only [World.size_setCell] at hz_x1); (try simp only [World.size_alloc] at hz_x1); have k0_x1 : w.heap.size < x1.w.heap.size := (by omega); have j0_x1 : w.heap.size < x1.w.heap.size + 1 := (by omega)
    (go_wp2_with fail); refine calls_after2 (H9.out _ (by (repeat' (first | (with_reducible exact Below.refl _ _) | (with_reducible assumption) | (with_reducible refine Below.alloc ?_ ?_ _) | (with_reducible refine Below.drew ?_) | (with_reducible refine below_drewN ?_ _) | (with_reducible refine Below.setCell ?_ ?_ _) | (with_reducible refine below_after ?_ ?_ _) | (with_reducible refine below_set ?_) | (with_reducible refine After.size_le _ ?_) | (with_reducible refine size_alloc_le ?_) | (with_reducible refine size_set_le ?_) | (with_reducible refine size_drewN_le ?_) | go_size)))) ?_; intro x2
    go_wp2
    go_ret
    exact ⟨rfl, by (repeat' (first | (with_reducible exact Below.refl _ _) | (with_reducible assumption) | (with_reducible refine Below.alloc ?_ ?_ _) | (with_reducible refine Below.drew ?_) | (with_reducible refine below_drewN ?_ _) | (with_reducible refine Below.setCell ?_ ?_ _) | (with_reducible refine below_after ?_ ?_ _) | (with_reducible refine below_set ?_) | (with_reducible refine After.size_le _ ?_) | (with_reducible refine size_alloc_le ?_) | (with_reducible refine size_set_le ?_) | (with_reducible refine size_drewN_le ?_) | go_size))⟩
set_option maxRecDepth 100000 in
set_option maxHeartbeats 4000000 in
theorem stackSplits_ok (a : Option Addr) (n cap : Nat) (g : Nat → Nat → Int) (k : Nat) (t : Int) (i : Nat) (W aN aD bN bD pN pD : Int) (w : World) (hT : Tab w) (h : n ≤ 60) (hk : k < n) (hi : i < n) (hS : CQSay w 47 #[.slice a n cap, .int .i64 (k : Nat), .int .i64 t] (n + 1) g 0)
    (h2 : LSay w 19 #[.slice a n cap, .int .i64 (i : Nat)] (.tuple #[.int .i64 W, .int .i64 0]))
    (h4 : LSay w 21 #[.slice a n cap, .int .i64 (i : Nat)] (.tuple #[.agg #[.int .i64 aN, .int .i64 aD], .agg #[.int .i64 bN, .int .i64 bD], .int .i64 0]))
    (h6 : LSay w 25 #[.slice a n cap, .int .i64 (i : Nat), .int .i64 9] (.tuple #[.agg #[.int .i64 pN, .int .i64 pD], .int .i64 0]))
    (hm : ∀ V a' cap', Below w.heap.size w V → Crs V V.heap.size (.slice a' (n + 1) cap') (n + 1) g → LSay V 19 #[.slice a' (n + 1) cap', .int .i64 (if k < i then (i : Int) + 1 else i)] (.tuple #[.int .i64 W, .int .i64 0]) ∧
      LSay V 21 #[.slice a' (n + 1) cap', .int .i64 (if k < i then (i : Int) + 1 else i)] (.tuple #[.agg #[.int .i64 aN, .int .i64 aD], .agg #[.int .i64 bN, .int .i64 bD], .int .i64 0]) ∧
      LSay V 25 #[.slice a' (n + 1) cap', .int .i64 (if k < i then (i : Int) + 1 else i), .int .i64 9] (.tuple #[.agg #[.int .i64 pN, .int .i64 pD], .int .i64 0])) :
    Calls Tryd.prog 13 #[.slice a n cap, .agg #[.int .i64 (k : Nat), .int .i64 t, .int .i64 (i : Nat)]] w fun e w' => e = .returned (.bool true) ∧ Below w.heap.size w w' := by
  have H9 : Hid (∀ W, Below w.heap.size w W → _) := fun W hW => awake_any W (hT.on hW)
  have H1 : Hid (∀ W, Below w.heap.size w W → _) := hS
  have H2 : Hid (∀ W, Below w.heap.size w W → _) := h2
  have H4 : Hid (∀ W, Below w.heap.size w W → _) := h4
  have H6 : Hid (∀ W, Below w.heap.size w W → _) := h6
  have e1 : decide ((i : Int) < 0) = false := decide_eq_false (by omega)
  have e2 : decide ((n : Int) ≤ (i : Int)) = false := decide_eq_false (by omega)
  by_cases hki : k < i
  · simp only [if_pos hki] at hm
    have HM := Lib.hid hm
    have e3 : decide (((k : Nat) : Int) < (i : Int)) = true := decide_eq_true (by omega)
    clear hm hT hS h2 h4 h6
    have d1 : decide ((60 : Int) < (n : Int)) = false := decide_eq_false (by omega)
    have d2 : decide (((k : Nat) : Int) < 0) = false := decide_eq_false (by omega)
    have d3 : decide ((n : Int) ≤ ((k : Nat) : Int)) = false := decide_eq_false (by omega)
    have d4 : ((((n + 1 : Nat)) : Int) != (n : Int) + 1) = false := by simp
    have d5 : ((((n + 1 : Nat)) : Int) == (n : Int) + 1) = true := by simp
    have d6 : ((n : Int) + 1 != (n : Int) + 1) = false := by simp
    have d7 : ((n : Int) + 1 == (n : Int) + 1) = true := by simp
    have hnn : (n : Int) + 1 ≤ 61 := by omega
    go_enter Tryd.func13, Tryd.ntmps13
    go_wp2_with fail
    refine (H1.out _ (by (repeat' (first | (with_reducible exact Below.refl _ _) | (with_reducible assumption) | (with_reducible refine Below.alloc ?_ ?_ _) | (with_reducible refine Below.drew ?_) | (with_reducible refine below_drewN ?_ _) | (with_reducible refine Below.setCell ?_ ?_ _) | (with_reducible refine below_after ?_ ?_ _) | (with_reducible refine below_set ?_) | (with_reducible refine After.size_le _ ?_) | (with_reducible refine size_alloc_le ?_) | (with_reducible refine size_set_le ?_) | (with_reducible refine size_drewN_le ?_) | go_size)))).mono ?_
    rintro e w1 ⟨v1, rfl, i1, b1⟩
    have I1 := Lib.hid i1.crs
    obtain ⟨a1, c1, rfl, -⟩ := i1
    obtain ⟨x1, rfl⟩ := after_ofB b1
    clear b1
    have hz_x1 := x1.out.size; (try simp only [World.size_alloc] at hz_x1); (try simp only [World.size_setCell] at hz_x1); (try simp only [World.size_alloc] at hz_x1); have k0_x1 : w.heap.size < x1.w.heap.size := (by omega); have j0_x1 : w.heap.size < x1.w.heap.size + 1 := (by omega)
    obtain ⟨h3, h5, h7⟩ := HM.out x1.w a1 c1 (by (repeat' (first | (with_reducible exact Below.refl _ _) | (with_reducible assumption) | (with_reducible refine Below.alloc ?_ ?_ _) | (with_reducible refine Below.drew ?_) | (with_reducible refine below_drewN ?_ _) | (with_reducible refine Below.setCell ?_ ?_ _) | (with_reducible refine below_after ?_ ?_ _) | (with_reducible refine below_set ?_) | (with_reducible refine After.size_le _ ?_) | (with_reducible refine size_alloc_le ?_) | (with_reducible refine size_set_le ?_) | (with_reducible refine size_drewN_le ?_) | go_size))) I1.out
    have H3 : Hid (∀ V, Below x1.w.heap.size x1.w V → _) := h3
    have H5 : Hid (∀ V, Below x1.w.heap.size x1.w V → _) := h5
    have H7 : Hid (∀ V, Below x1.w.heap.size x1.w V → _) := h7
    clear h3 h5 h7 HM I1 H1
    (go_wp2_with fail); refine calls_after (H2.out _ (by (repeat' (first | (with_reducible exact Nat.le_refl _) | (with_reducible exact Below.refl _ _) | (with_reducible assumption) | (with_reducible refine Below.alloc ?_ ?_ _) | (with_reducible refine Below.drew ?_) | (with_reducible refine below_drewN ?_ _) | (with_reducible refine Below.setCell ?_ ?_ _) | (with_reducible refine below_after ?_ ?_ _) | (with_reducible refine below_set ?_) | (with_reducible refine After.size_le _ ?_) | (with_reducible refine size_alloc_le ?_) | (with_reducible refine size_set_le ?_) | (with_reducible refine size_drewN_le ?_) | go_size)))) ?_; intro x2; have hz_x2 := x2.out.size; (try simp only [World.size_alloc] at hz_x2); (try simp only [World.size_setCell] at hz_x2); (try simp only [World.size_alloc] at hz_x2); have k0_x2 : w.heap.size < x2.w.heap.size := (by omega); have j0_x2 : w.heap.size < x2.w.heap.size + 1 := (by omega)
    (go_wp2_with fail); refine calls_after2 (H3.out _ (by (repeat' (first | (with_reducible exact Nat.le_refl _) | (with_reducible exact Below.refl _ _) | (with_reducible assumption) | (with_reducible refine Below.alloc ?_ ?_ _) | (with_reducible refine Below.drew ?_) | (with_reducible refine below_drewN ?_ _) | (with_reducible refine Below.setCell ?_ ?_ _) | (with_reducible refine below_after ?_ ?_ _) | (with_reducible refine below_set ?_) | (with_reducible refine After.size_le _ ?_) | (with_reducible refine size_alloc_le ?_) | (with_reducible refine size_set_le ?_) | (with_reducible refine size_drewN_le ?_) | go_size)))) ?_; intro x3; have hz_x3 := x3.out.size; (try simp only [World.size_alloc] at hz_x3); (try simp only [World.size_setCell] at hz_x3); (try simp only [World.size_alloc] at hz_x3); have k0_x3 : w.heap.size < x3.w.heap.size := (by omega); have j0_x3 : w.heap.size < x3.w.heap.size + 1 := (by omega)
    (go_wp2_with fail); refine calls_after2 (H4.out _ (by (repeat' (first | (with_reducible exact Nat.le_refl _) | (with_reducible exact Below.refl _ _) | (with_reducible assumption) | (with_reducible refine Below.alloc ?_ ?_ _) | (with_reducible refine Below.drew ?_) | (with_reducible refine below_drewN ?_ _) | (with_reducible refine Below.setCell ?_ ?_ _) | (with_reducible refine below_after ?_ ?_ _) | (with_reducible refine below_set ?_) | (with_reducible refine After.size_le _ ?_) | (with_reducible refine size_alloc_le ?_) | (with_reducible refine size_set_le ?_) | (with_reducible refine size_drewN_le ?_) | go_size)))) ?_; intro x4; have hz_x4 := x4.out.size; (try simp only [World.size_alloc] at hz_x4); (try simp only [World.size_setCell] at hz_x4); (try simp only [World.size_alloc] at hz_x4); have k0_x4 : w.heap.size < x4.w.heap.size := (by omega); have j0_x4 : w.heap.size < x4.w.heap.size + 1 := (by omega)
    (go_wp2_with fail); refine calls_after (H5.out _ (by (repeat' (first | (with_reducible exact Nat.le_refl _) | (with_reducible exact Below.refl _ _) | (with_reducible assumption) | (with_reducible refine Below.alloc ?_ ?_ _) | (with_reducible refine Below.drew ?_) | (with_reducible refine below_drewN ?_ _) | (with_reducible refine Below.setCell ?_ ?_ _) | (with_reducible refine below_after ?_ ?_ _) | (with_reducible refine below_set ?_) | (with_reducible refine After.size_le _ ?_) | (with_reducible refine size_alloc_le ?_) | (with_reducible refine size_set_le ?_) | (with_reducible refine size_drewN_le ?_) | go_size)))) ?_; intro x5; have hz_x5 := x5.out.size; (try simp only [World.size_alloc] at hz_x5); (try simp only [World.size_setCell] at hz_x5); (try simp only [World.size_alloc] at hz_x5); have k0_x5 : w.heap.size < x5.w.heap.size := (by omega); have j0_x5 : w.heap.size < x5.w.heap.size + 1 := (by omega); have k1_x5 : x4.w.heap.size < x5.w.heap.size := (by omega); have j1_x5 : x4.w.heap.size < x5.w.heap.size + 1 := (by omega); have k2_x5 : x4.w.heap.size + 1 < x5.w.heap.size := (by omega); have j2_x5 : x4.w.heap.size + 1 < x5.w.heap.size + 1 := (by omega)
    (go_wp2_with fail); refine calls_after (H6.out _ (by (repeat' (first | (with_reducible exact Nat.le_refl _) | (with_reducible exact Below.refl _ _) | (with_reducible assumption) | (with_reducible refine Below.alloc ?_ ?_ _) | (with_reducible refine Below.drew ?_) | (with_reducible refine below_drewN ?_ _) | (with_reducible refine Below.setCell ?_ ?_ _) | (with_reducible refine below_after ?_ ?_ _) | (with_reducible refine below_set ?_) | (with_reducible refine After.size_le _ ?_) | (with_reducible refine size_alloc_le ?_) | (with_reducible refine size_set_le ?_) | (with_reducible refine size_drewN_le ?_) | go_size)))) ?_; intro x6; have hz_x6 := x6.out.size; (try simp only [World.size_alloc] at hz_x6); (try simp only [World.size_setCell] at hz_x6); (try simp only [World.size_alloc] at hz_x6); have k0_x6 : w.heap.size < x6.w.heap.size := (by omega); have j0_x6 : w.heap.size < x6.w.heap.size + 1 := (by omega); have k1_x6 : x4.w.heap.size < x6.w.heap.size := (by omega); have j1_x6 : x4.w.heap.size < x6.w.heap.size + 1 := (by omega); have k2_x6 : x4.w.heap.size + 1 < x6.w.heap.size := (by omega); have j2_x6 : x4.w.heap.size + 1 < x6.w.heap.size + 1 := (by omega); have k3_x6 : x5.w.heap.size < x6.w.heap.size := (by omega); have j3_x6 : x5.w.heap.size < x6.w.heap.size + 1 := (by omega); have k4_x6 : x5.w.heap.size + 1 < x6.w.heap.size := (by omega); have j4_x6 : x5.w.heap.size + 1 < x6.w.heap.size + 1 := (by omega)
    (go_wp2_with fail); refine calls_after (H7.out _ (by (repeat' (first | (with_reducible exact Nat.le_refl _) | (with_reducible exact Below.refl _ _) | (with_reducible assumption) | (with_reducible refine Below.alloc ?_ ?_ _) | (with_reducible refine Below.drew ?_) | (with_reducible refine below_drewN ?_ _) | (with_reducible refine Below.setCell ?_ ?_ _) | (with_reducible refine below_after ?_ ?_ _) | (with_reducible refine below_set ?_) | (with_reducible refine After.size_le _ ?_) | (with_reducible refine size_alloc_le ?_) | (with_reducible refine size_set_le ?_) | (with_reducible refine size_drewN_le ?_) | go_size)))) ?_; intro x7; have hz_x7 := x7.out.size; (try simp only [World.size_alloc] at hz_x7); (try simp only [World.size_setCell] at hz_x7); (try simp only [World.size_alloc] at hz_x7); have k0_x7 : w.heap.size < x7.w.heap.size := (by omega); have j0_x7 : w.heap.size < x7.w.heap.size + 1 := (by omega); have k1_x7 : x4.w.heap.size < x7.w.heap.size := (by omega); have j1_x7 : x4.w.heap.size < x7.w.heap.size + 1 := (by omega); have k2_x7 : x4.w.heap.size + 1 < x7.w.heap.size := (by omega); have j2_x7 : x4.w.heap.size + 1 < x7.w.heap.size + 1 := (by omega); have k3_x7 : x5.w.heap.size < x7.w.heap.size := (by omega); have j3_x7 : x5.w.heap.size < x7.w.heap.size + 1 := (by omega); have k4_x7 : x5.w.heap.size + 1 < x7.w.heap.size := (by omega); have j4_x7 : x5.w.heap.size + 1 < x7.w.heap.size + 1 := (by omega); have k5_x7 : x6.w.heap.size < x7.w.heap.size := (by omega); have j5_x7 : x6.w.heap.size < x7.w.heap.size + 1 := (by omega)
    (go_wp2_with fail); refine calls_after (H9.out _ (by (repeat' (first | (with_reducible exact Nat.le_refl _) | (with_reducible exact Below.refl _ _) | (with_reducible assumption) | (with_reducible refine Below.alloc ?_ ?_ _) | (with_reducible refine Below.drew ?_) | (with_reducible refine below_drewN ?_ _) | (with_reducible refine Below.setCell ?_ ?_ _) | (with_reducible refine below_after ?_ ?_ _) | (with_reducible refine below_set ?_) | (with_reducible refine After.size_le _ ?_) | (with_reducible refine size_alloc_le ?_) | (with_reducible refine size_set_le ?_) | (with_reducible refine size_drewN_le ?_) | go_size)))) ?_; intro x8; have hz_x8 := x8.out.size; (try simp only [World.size_alloc] at hz_x8); (try simp only [World.size_setCell] at hz_x8); (try simp only [World.size_alloc] at hz_x8); have k0_x8 : w.heap.size < x8.w.heap.size := (by omega); have j0_x8 : w.heap.size < x8.w.heap.size + 1 := (by omega); have k1_x8 : x4.w.heap.size < x8.w.heap.size := (by omega); have j1_x8 : x4.w.heap.size < x8.w.heap.size + 1 := (by omega); have k2_x8 : x4.w.heap.size + 1 < x8.w.heap.size := (by omega); have j2_x8 : x4.w.heap.size + 1 < x8.w.heap.size + 1 := (by omega); have k3_x8 : x5.w.heap.size < x8.w.heap.size := (by omega); have j3_x8 : x5.w.heap.size < x8.w.heap.size + 1 := (by omega); have k4_x8 : x5.w.heap.size + 1 < x8.w.heap.size := (by omega); have j4_x8 : x5.w.heap.size + 1 < x8.w.heap.size + 1 := (by omega); have k5_x8 : x6.w.heap.size < x8.w.heap.size := (by omega); have j5_x8 : x6.w.heap.size < x8.w.heap.size + 1 := (by omega); have k6_x8 : x7.w.heap.size < x8.w.heap.size := (by omega); have j6_x8 : x7.w.heap.size < x8.w.heap.size + 1 := (by omega)
    go_wp2
    go_ret
    exact ⟨rfl, by (repeat' (first | (with_reducible exact Nat.le_refl _) | (with_reducible exact Below.refl _ _) | (with_reducible assumption) | (with_reducible refine Below.alloc ?_ ?_ _) | (with_reducible refine Below.drew ?_) | (with_reducible refine below_drewN ?_ _) | (with_reducible refine Below.setCell ?_ ?_ _) | (with_reducible refine below_after ?_ ?_ _) | (with_reducible refine below_set ?_) | (with_reducible refine After.size_le _ ?_) | (with_reducible refine size_alloc_le ?_) | (with_reducible refine size_set_le ?_) | (with_reducible refine size_drewN_le ?_) | go_size))⟩
  · simp only [if_neg hki] at hm
    have HM := Lib.hid hm
    have e3 : decide (((k : Nat) : Int) < (i : Int)) = false := decide_eq_false (by omega)
    clear hm hT hS h2 h4 h6
    have d1 : decide ((60 : Int) < (n : Int)) = false := decide_eq_false (by omega)
    have d2 : decide (((k : Nat) : Int) < 0) = false := decide_eq_false (by omega)
    have d3 : decide ((n : Int) ≤ ((k : Nat) : Int)) = false := decide_eq_false (by omega)
    have d4 : ((((n + 1 : Nat)) : Int) != (n : Int) + 1) = false := by simp
    have d5 : ((((n + 1 : Nat)) : Int) == (n : Int) + 1) = true := by simp
    have d6 : ((n : Int) + 1 != (n : Int) + 1) = false := by simp
    have d7 : ((n : Int) + 1 == (n : Int) + 1) = true := by simp
    have hnn : (n : Int) + 1 ≤ 61 := by omega
    go_enter Tryd.func13, Tryd.ntmps13
    go_wp2_with fail
    refine (H1.out _ (by (repeat' (first | (with_reducible exact Below.refl _ _) | (with_reducible assumption) | (with_reducible refine Below.alloc ?_ ?_ _) | (with_reducible refine Below.drew ?_) | (with_reducible refine below_drewN ?_ _) | (with_reducible refine Below.setCell ?_ ?_ _) | (with_reducible refine below_after ?_ ?_ _) | (with_reducible refine below_set ?_) | (with_reducible refine After.size_le _ ?_) | (with_reducible refine size_alloc_le ?_) | (with_reducible refine size_set_le ?_) | (with_reducible refine size_drewN_le ?_) | go_size)))).mono ?_
    rintro e w1 ⟨v1, rfl, i1, b1⟩
    have I1 := Lib.hid i1.crs
    obtain ⟨a1, c1, rfl, -⟩ := i1
    obtain ⟨x1, rfl⟩ := after_ofB b1
    clear b1
    have hz_x1 := x1.out.size; (try simp only [World.size_alloc] at hz_x1); (try simp only [World.size_setCell] at hz_x1); (try simp only [World.size_alloc] at hz_x1); have k0_x1 : w.heap.size < x1.w.heap.size := (by omega); have j0_x1 : w.heap.size < x1.w.heap.size + 1 := (by omega)
    obtain ⟨h3, h5, h7⟩ := HM.out x1.w a1 c1 (by (repeat' (first | (with_reducible exact Below.refl _ _) | (with_reducible assumption) | (with_reducible refine Below.alloc ?_ ?_ _) | (with_reducible refine Below.drew ?_) | (with_reducible refine below_drewN ?_ _) | (with_reducible refine Below.setCell ?_ ?_ _) | (with_reducible refine below_after ?_ ?_ _) | (with_reducible refine below_set ?_) | (with_reducible refine After.size_le _ ?_) | (with_reducible refine size_alloc_le ?_) | (with_reducible refine size_set_le ?_) | (with_reducible refine size_drewN_le ?_) | go_size))) I1.out
    have H3 : Hid (∀ V, Below x1.w.heap.size x1.w V → _) := h3
    have H5 : Hid (∀ V, Below x1.w.heap.size x1.w V → _) := h5
    have H7 : Hid (∀ V, Below x1.w.heap.size x1.w V → _) := h7
    clear h3 h5 h7 HM I1 H1
    (go_wp2_with fail); refine calls_after (H2.out _ (by (repeat' (first | (with_reducible exact Nat.le_refl _) | (with_reducible exact Below.refl _ _) | (with_reducible assumption) | (with_reducible refine Below.alloc ?_ ?_ _) | (with_reducible refine Below.drew ?_) | (with_reducible refine below_drewN ?_ _) | (with_reducible refine Below.setCell ?_ ?_ _) | (with_reducible refine below_after ?_ ?_ _) | (with_reducible refine below_set ?_) | (with_reducible refine After.size_le _ ?_) | (with_reducible refine size_alloc_le ?_) | (with_reducible refine size_set_le ?_) | (with_reducible refine size_drewN_le ?_) | go_size)))) ?_; intro x2; have hz_x2 := x2.out.size; (try simp only [World.size_alloc] at hz_x2); (try simp only [World.size_setCell] at hz_x2); (try simp only [World.size_alloc] at hz_x2); have k0_x2 : w.heap.size < x2.w.heap.size := (by omega); have j0_x2 : w.heap.size < x2.w.heap.size + 1 := (by omega)
    (go_wp2_with fail); refine calls_after2 (H3.out _ (by (repeat' (first | (with_reducible exact Nat.le_refl _) | (with_reducible exact Below.refl _ _) | (with_reducible assumption) | (with_reducible refine Below.alloc ?_ ?_ _) | (with_reducible refine Below.drew ?_) | (with_reducible refine below_drewN ?_ _) | (with_reducible refine Below.setCell ?_ ?_ _) | (with_reducible refine below_after ?_ ?_ _) | (with_reducible refine below_set ?_) | (with_reducible refine After.size_le _ ?_) | (with_reducible refine size_alloc_le ?_) | (with_reducible refine size_set_le ?_) | (with_reducible refine size_drewN_le ?_) | go_size)))) ?_; intro x3; have hz_x3 := x3.out.size; (try simp only [World.size_alloc] at hz_x3); (try simp only [World.size_setCell] at hz_x3); (try simp only [World.size_alloc] at hz_x3); have k0_x3 : w.heap.size < x3.w.heap.size := (by omega); have j0_x3 : w.heap.size < x3.w.heap.size + 1 := (by omega)
    (go_wp2_with fail); refine calls_after2 (H4.out _ (by (repeat' (first | (with_reducible exact Nat.le_refl _) | (with_reducible exact Below.refl _ _) | (with_reducible assumption) | (with_reducible refine Below.alloc ?_ ?_ _) | (with_reducible refine Below.drew ?_) | (with_reducible refine below_drewN ?_ _) | (with_reducible refine Below.setCell ?_ ?_ _) | (with_reducible refine below_after ?_ ?_ _) | (with_reducible refine below_set ?_) | (with_reducible refine After.size_le _ ?_) | (with_reducible refine size_alloc_le ?_) | (with_reducible refine size_set_le ?_) | (with_reducible refine size_drewN_le ?_) | go_size)))) ?_; intro x4; have hz_x4 := x4.out.size; (try simp only [World.size_alloc] at hz_x4); (try simp only [World.size_setCell] at hz_x4); (try simp only [World.size_alloc] at hz_x4); have k0_x4 : w.heap.size < x4.w.heap.size := (by omega); have j0_x4 : w.heap.size < x4.w.heap.size + 1 := (by omega)
    (go_wp2_with fail); refine calls_after (H5.out _ (by (repeat' (first | (with_reducible exact Nat.le_refl _) | (with_reducible exact Below.refl _ _) | (with_reducible assumption) | (with_reducible refine Below.alloc ?_ ?_ _) | (with_reducible refine Below.drew ?_) | (with_reducible refine below_drewN ?_ _) | (with_reducible refine Below.setCell ?_ ?_ _) | (with_reducible refine below_after ?_ ?_ _) | (with_reducible refine below_set ?_) | (with_reducible refine After.size_le _ ?_) | (with_reducible refine size_alloc_le ?_) | (with_reducible refine size_set_le ?_) | (with_reducible refine size_drewN_le ?_) | go_size)))) ?_; intro x5; have hz_x5 := x5.out.size; (try simp only [World.size_alloc] at hz_x5); (try simp only [World.size_setCell] at hz_x5); (try simp only [World.size_alloc] at hz_x5); have k0_x5 : w.heap.size < x5.w.heap.size := (by omega); have j0_x5 : w.heap.size < x5.w.heap.size + 1 := (by omega); have k1_x5 : x4.w.heap.size < x5.w.heap.size := (by omega); have j1_x5 : x4.w.heap.size < x5.w.heap.size + 1 := (by omega); have k2_x5 : x4.w.heap.size + 1 < x5.w.heap.size := (by omega); have j2_x5 : x4.w.heap.size + 1 < x5.w.heap.size + 1 := (by omega)
    (go_wp2_with fail); refine calls_after (H6.out _ (by (repeat' (first | (with_reducible exact Nat.le_refl _) | (with_reducible exact Below.refl _ _) | (with_reducible assumption) | (with_reducible refine Below.alloc ?_ ?_ _) | (with_reducible refine Below.drew ?_) | (with_reducible refine below_drewN ?_ _) | (with_reducible refine Below.setCell ?_ ?_ _) | (with_reducible refine below_after ?_ ?_ _) | (with_reducible refine below_set ?_) | (with_reducible refine After.size_le _ ?_) | (with_reducible refine size_alloc_le ?_) | (with_reducible refine size_set_le ?_) | (with_reducible refine size_drewN_le ?_) | go_size)))) ?_; intro x6; have hz_x6 := x6.out.size; (try simp only [World.size_alloc] at hz_x6); (try simp only [World.size_setCell] at hz_x6); (try simp only [World.size_alloc] at hz_x6); have k0_x6 : w.heap.size < x6.w.heap.size := (by omega); have j0_x6 : w.heap.size < x6.w.heap.size + 1 := (by omega); have k1_x6 : x4.w.heap.size < x6.w.heap.size := (by omega); have j1_x6 : x4.w.heap.size < x6.w.heap.size + 1 := (by omega); have k2_x6 : x4.w.heap.size + 1 < x6.w.heap.size := (by omega); have j2_x6 : x4.w.heap.size + 1 < x6.w.heap.size + 1 := (by omega); have k3_x6 : x5.w.heap.size < x6.w.heap.size := (by omega); have j3_x6 : x5.w.heap.size < x6.w.heap.size + 1 := (by omega); have k4_x6 : x5.w.heap.size + 1 < x6.w.heap.size := (by omega); have j4_x6 : x5.w.heap.size + 1 < x6.w.heap.size + 1 := (by omega)
    (go_wp2_with fail); refine calls_after (H7.out _ (by (repeat' (first | (with_reducible exact Nat.le_refl _) | (with_reducible exact Below.refl _ _) | (with_reducible assumption) | (with_reducible refine Below.alloc ?_ ?_ _) | (with_reducible refine Below.drew ?_) | (with_reducible refine below_drewN ?_ _) | (with_reducible refine Below.setCell ?_ ?_ _) | (with_reducible refine below_after ?_ ?_ _) | (with_reducible refine below_set ?_) | (with_reducible refine After.size_le _ ?_) | (with_reducible refine size_alloc_le ?_) | (with_reducible refine size_set_le ?_) | (with_reducible refine size_drewN_le ?_) | go_size)))) ?_; intro x7; have hz_x7 := x7.out.size; (try simp only [World.size_alloc] at hz_x7); (try simp only [World.size_setCell] at hz_x7); (try simp only [World.size_alloc] at hz_x7); have k0_x7 : w.heap.size < x7.w.heap.size := (by omega); have j0_x7 : w.heap.size < x7.w.heap.size + 1 := (by omega); have k1_x7 : x4.w.heap.size < x7.w.heap.size := (by omega); have j1_x7 : x4.w.heap.size < x7.w.heap.size + 1 := (by omega); have k2_x7 : x4.w.heap.size + 1 < x7.w.heap.size := (by omega); have j2_x7 : x4.w.heap.size + 1 < x7.w.heap.size + 1 := (by omega); have k3_x7 : x5.w.heap.size < x7.w.heap.size := (by omega); have j3_x7 : x5.w.heap.size < x7.w.heap.size + 1 := (by omega); have k4_x7 : x5.w.heap.size + 1 < x7.w.heap.size := (by omega); have j4_x7 : x5.w.heap.size + 1 < x7.w.heap.size + 1 := (by omega); have k5_x7 : x6.w.heap.size < x7.w.heap.size := (by omega); have j5_x7 : x6.w.heap.size < x7.w.heap.size + 1 := (by omega)
    (go_wp2_with fail); refine calls_after (H9.out _ (by (repeat' (first | (with_reducible exact Nat.le_refl _) | (with_reducible exact Below.refl _ _) | (with_reducible assumption) | (with_reducible refine Below.alloc ?_ ?_ _) | (with_reducible refine Below.drew ?_) | (with_reducible refine below_drewN ?_ _) | (with_reducible refine Below.setCell ?_ ?_ _) | (with_reducible refine below_after ?_ ?_ _) | (with_reducible refine below_set ?_) | (with_reducible refine After.size_le _ ?_) | (with_reducible refine size_alloc_le ?_) | (with_reducible refine size_set_le ?_) | (with_reducible refine size_drewN_le ?_) | go_size)))) ?_; intro x8; have hz_x8 := x8.out.size; (try simp only [World.size_alloc] at hz_x8); (try simp only [World.size_setCell] at hz_x8); (try simp only [World.size_alloc] at hz_x8); have k0_x8 : w.heap.size < x8.w.heap.size := (by omega); have j0_x8 : w.heap.size < x8.w.heap.size + 1 := (by omega); have k1_x8 : x4.w.heap.size < x8.w.heap.size := (by omega); have j1_x8 : x4.w.heap.size < x8.w.heap.size + 1 := (by omega); have k2_x8 : x4.w.heap.size + 1 < x8.w.heap.size := (by omega); have j2_x8 : x4.w.heap.size + 1 < x8.w.heap.size + 1 := (by omega); have k3_x8 : x5.w.heap.size < x8.w.heap.size := (by omega); have j3_x8 : x5.w.heap.size < x8.w.heap.size + 1 := (by omega); have k4_x8 : x5.w.heap.size + 1 < x8.w.heap.size := (by omega); have j4_x8 : x5.w.heap.size + 1 < x8.w.heap.size + 1 := (by omega); have k5_x8 : x6.w.heap.size < x8.w.heap.size := (by omega); have j5_x8 : x6.w.heap.size < x8.w.heap.size + 1 := (by omega); have k6_x8 : x7.w.heap.size < x8.w.heap.size := (by omega); have j6_x8 : x7.w.heap.size < x8.w.heap.size + 1 := (by omega)
    go_wp2
    go_ret
    exact ⟨rfl, by (repeat' (first | (with_reducible exact Nat.le_refl _) | (with_reducible exact Below.refl _ _) | (with_reducible assumption) | (with_reducible refine Below.alloc ?_ ?_ _) | (with_reducible refine Below.drew ?_) | (with_reducible refine below_drewN ?_ _) | (with_reducible refine Below.setCell ?_ ?_ _) | (with_reducible refine below_after ?_ ?_ _) | (with_reducible refine below_set ?_) | (with_reducible refine After.size_le _ ?_) | (with_reducible refine size_alloc_le ?_) | (with_reducible refine size_set_le ?_) | (with_reducible refine size_drewN_le ?_) | go_size))⟩
theorem stackSplits_any (v : Value) (n : Nat) (f : Nat → Nat → Int) (k t i : Int) (w : World) (hT : Tab w) (h : Crs w w.heap.size v n f) (hr : RoomC v n) :
    Calls Tryd.prog 13 #[v, .agg #[.int .i64 k, .int .i64 t, .int .i64 i]] w fun e w' => e = .returned (.bool true) ∧ Below w.heap.size w w' := by
  have hh := h
  obtain ⟨a, cap, rfl, _⟩ := hh
  by_cases hl : n ≤ 60
  · by_cases hok : SpOk n f k t
    · obtain ⟨k, rfl⟩ := Int.eq_ofNat_of_zero_le hok.2.1
      have hk : k < n := by have := hok.2.2.1; omega
      have hS := (split_good h hr k t hok).1
      obtain ⟨hG, -, -, t1, t2, t3, t4⟩ := hok
      simp only [Int.toNat_natCast] at t2 t3
      have hg := sp_good (t := t) hG hk (by omega) t1 t2 t3
      by_cases hi : i < 0 ∨ n ≤ i
      · exact stackSplits_far a n cap _ k t i w hT hl hk hi hS
      · obtain ⟨i, rfl⟩ := Int.eq_ofNat_of_zero_le (show 0 ≤ i by omega)
        have hin : i < n := by omega
        refine stackSplits_ok a n cap _ k t i _ _ _ _ _ _ _ w hT hl hk hin hS (weight_in h hG hin) (centre_in h hG hin) (moment_in h hG hin 9 (by omega) (by omega)) (fun V a' cap' hB hc => ?_)
        by_cases hki : k < i
        · rw [if_pos hki]
          obtain ⟨q1, q2, q3, -, q5⟩ := sp_bed hk f t i (by omega) hki
          have h1 := weight_in hc hg (show i + 1 < n + 1 by omega)
          have h2 := centre_in hc hg (show i + 1 < n + 1 by omega)
          have h3 := moment_in hc hg (show i + 1 < n + 1 by omega) 9 (by omega) (by omega)
          rw [show ((i + 1 : Nat) : Int) = (i : Int) + 1 by omega] at h1 h2 h3
          rw [q1] at h1
          rw [q1, q2, q3] at h2
          rw [q5] at h3
          exact ⟨h1, h2, h3⟩
        · rw [if_neg hki]
          obtain ⟨q1, q2, q3, -, q5⟩ := sp_low hk f t i (by omega)
          have h1 := weight_in hc hg (show i < n + 1 by omega)
          have h2 := centre_in hc hg (show i < n + 1 by omega)
          have h3 := moment_in hc hg (show i < n + 1 by omega) 9 (by omega) (by omega)
          rw [q1] at h1
          rw [q1, q2, q3] at h2
          rw [q5] at h3
          exact ⟨h1, h2, h3⟩
    · obtain ⟨e, he, h1, -⟩ := split_wrong h (by omega) k t hok
      exact stackSplits_err a n cap f k t i e w hT hl he h1
  · exact stackSplits_long a n cap k t i w hT (by omega)
end Go.Proofs.YtplhbklfaokjbaaDoor
