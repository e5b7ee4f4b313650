/- Left, May and Safe, in both programs. -/
import Derived.Test.YtnhkkboddoiinaaLeft
namespace Go.Proofs.Ytnhkkboddoiinaa
open Go.RowKit
attribute [local go_sem] After.cell After.frozen After.lt After.le After.ne After.ne' After.set_eq After.size_set After.lt_add

theorem lft_bd {s dl d : Int} {ps : List (Int × Int)} (hs : 1 ≤ s) (hU : GoodU ps) (h1 : Btw dl 0 1000) (h2 : Dy d) : 0 ≤ lft s dl d ps ∧ lft s dl d ps ≤ 1000 := by
  have a := dl_bd h1 h2
  have b := (take_bdU hs hU d ps.length).1
  rw [List.take_length] at b
  unfold lft leftN; omega
theorem sl_bd {s x : Int} (hs : Btw s 1 1000000) (h0 : 0 ≤ x) (h1 : x ≤ 1000) : 0 ≤ s * x ∧ s * x ≤ 1000000000 := by
  obtain ⟨a, b⟩ := hs
  exact ⟨Int.mul_nonneg (by omega) h0, Int.le_trans (Int.mul_le_mul b h1 h0 (by omega)) (by omega)⟩
/-- The greatest whole load that a rope may bear. -/
def sfV (s x : Int) : Int := s * x / 5000
def mayB (s l x n : Int) : Bool := decide (l ≤ x ∧ n ≤ sfV s x)
theorem sf_le {s x n : Int} : n ≤ sfV s x ↔ 5000 * n ≤ s * x := by unfold sfV; omega

set_option maxRecDepth 100000 in
set_option maxHeartbeats 1000000 in
theorem wsafe_any (s d l dy : Int) (v : Value) (ps : List (Int × Int)) (w : World) (h : Prc w w.heap.size v ps) (hG : GoodW s d l ps) (hD : Dy dy) :
    Calls Try.prog 87 #[.agg #[.int .i64 s, .int .i64 d, .int .i64 l, v], .int .i64 dy] w fun e w' => e = .returned (.tuple #[.int .i64 (if l ≤ lft s d dy ps then sfV s (lft s d dy ps) else 0), .bool (decide (l ≤ lft s d dy ps))]) ∧ Below w.heap.size w w' := by
  obtain ⟨a0, cap0, hv⟩ := prc_slice h
  have HL : Hid (∀ W, Below w.heap.size w W → _) := fun W hW => wleft_any s d l dy v ps W (prc_on h hW) hG hD
  obtain ⟨x1, x2⟩ := lft_bd (s := s) hG.1.1.1 hG.2 hG.1.2.1 hD
  obtain ⟨y1, y2⟩ := sl_bd hG.1.1 x1 x2
  have HS : Hid (sfV s (lft s d dy ps) = s * lft s d dy ps / 5000) := rfl
  rw [HS.out]
  generalize lft s d dy ps = x at *
  clear h hG hD HS
  subst hv
  generalize ps.length = n at *
  by_cases hc : l ≤ x
  · rw [if_pos hc, decide_eq_true hc]
    have hd : decide (x < l) = false := decide_eq_false (by omega)
    go_enter Try.func87, Try.ntmps87
    go_wp2_with fail
    refine calls_after (HL.out _ (by (repeat' (first | (with_reducible exact Below.refl _ _) | (with_reducible assumption) | (with_reducible refine Below.alloc ?_ ?_ _) | (with_reducible refine Below.drew ?_) | (with_reducible refine below_drewN ?_ _) | (with_reducible refine Below.setCell ?_ ?_ _) | (with_reducible refine below_after ?_ ?_ _) | (with_reducible refine below_set ?_) | (with_reducible refine After.size_le _ ?_) | (with_reducible refine size_alloc_le ?_) | (with_reducible refine size_set_le ?_) | (with_reducible refine size_drewN_le ?_) | go_size)))) ?_
    intro x1
    have hz_x1 := x1.out.size; (try simp only [World.size_alloc] at hz_x1); (try simp only [World.size_setCell] at hz_x1); (try simp only [World.size_alloc] at hz_x1); have k0_x1 : w.heap.size < x1.w.heap.size := (by omega); have j0_x1 : w.heap.size < x1.w.heap.size + 1 := (by omega)
    go_wp2
    go_returns
    exact ⟨rfl, by (repeat' (first | (with_reducible exact Below.refl _ _) | (with_reducible assumption) | (with_reducible refine Below.alloc ?_ ?_ _) | (with_reducible refine Below.drew ?_) | (with_reducible refine below_drewN ?_ _) | (with_reducible refine Below.setCell ?_ ?_ _) | (with_reducible refine below_after ?_ ?_ _) | (with_reducible refine below_set ?_) | (with_reducible refine After.size_le _ ?_) | (with_reducible refine size_alloc_le ?_) | (with_reducible refine size_set_le ?_) | (with_reducible refine size_drewN_le ?_) | go_size))⟩
  · rw [if_neg hc, decide_eq_false hc]
    have hd : decide (x < l) = true := decide_eq_true (by omega)
    go_enter Try.func87, Try.ntmps87
    go_wp2_with fail
    refine calls_after (HL.out _ (by (repeat' (first | (with_reducible exact Below.refl _ _) | (with_reducible assumption) | (with_reducible refine Below.alloc ?_ ?_ _) | (with_reducible refine Below.drew ?_) | (with_reducible refine below_drewN ?_ _) | (with_reducible refine Below.setCell ?_ ?_ _) | (with_reducible refine below_after ?_ ?_ _) | (with_reducible refine below_set ?_) | (with_reducible refine After.size_le _ ?_) | (with_reducible refine size_alloc_le ?_) | (with_reducible refine size_set_le ?_) | (with_reducible refine size_drewN_le ?_) | go_size)))) ?_
    intro x1
    have hz_x1 := x1.out.size; (try simp only [World.size_alloc] at hz_x1); (try simp only [World.size_setCell] at hz_x1); (try simp only [World.size_alloc] at hz_x1); have k0_x1 : w.heap.size < x1.w.heap.size := (by omega); have j0_x1 : w.heap.size < x1.w.heap.size + 1 := (by omega)
    go_wp2
    go_returns
    exact ⟨rfl, by (repeat' (first | (with_reducible exact Below.refl _ _) | (with_reducible assumption) | (with_reducible refine Below.alloc ?_ ?_ _) | (with_reducible refine Below.drew ?_) | (with_reducible refine below_drewN ?_ _) | (with_reducible refine Below.setCell ?_ ?_ _) | (with_reducible refine below_after ?_ ?_ _) | (with_reducible refine below_set ?_) | (with_reducible refine After.size_le _ ?_) | (with_reducible refine size_alloc_le ?_) | (with_reducible refine size_set_le ?_) | (with_reducible refine size_drewN_le ?_) | go_size))⟩
set_option maxRecDepth 100000 in
set_option maxHeartbeats 1000000 in
theorem wmay_any (s d l dy n : Int) (v : Value) (ps : List (Int × Int)) (w : World) (h : Prc w w.heap.size v ps) (hG : GoodW s d l ps) (hD : Dy dy) :
    Calls Try.prog 85 #[.agg #[.int .i64 s, .int .i64 d, .int .i64 l, v], .int .i64 dy, .int .i64 n] w fun e w' => e = .returned (.bool (mayB s l (lft s d dy ps) n)) ∧ Below w.heap.size w w' := by
  obtain ⟨a0, cap0, hv⟩ := prc_slice h
  have HL : Hid (∀ W, Below w.heap.size w W → _) := fun W hW => wsafe_any s d l dy v ps W (prc_on h hW) hG hD
  generalize lft s d dy ps = x at *
  clear h hG hD
  subst hv
  generalize ps.length = m at *
  by_cases hc : l ≤ x
  · rw [if_pos hc, decide_eq_true hc] at HL
    have HM : Hid (mayB s l x n = decide (n ≤ sfV s x)) := Lib.hid (by unfold mayB; simp [hc])
    rw [HM.out]
    generalize sfV s x = q at *
    by_cases hn : n ≤ q
    · rw [decide_eq_true hn]
      have hd : decide (n ≤ q) = true := decide_eq_true hn
      clear HM hc
      go_enter Try.func85, Try.ntmps85
      go_wp2_with fail
      refine calls_after (HL.out _ (by (repeat' (first | (with_reducible exact Below.refl _ _) | (with_reducible assumption) | (with_reducible refine Below.alloc ?_ ?_ _) | (with_reducible refine Below.drew ?_) | (with_reducible refine below_drewN ?_ _) | (with_reducible refine Below.setCell ?_ ?_ _) | (with_reducible refine below_after ?_ ?_ _) | (with_reducible refine below_set ?_) | (with_reducible refine After.size_le _ ?_) | (with_reducible refine size_alloc_le ?_) | (with_reducible refine size_set_le ?_) | (with_reducible refine size_drewN_le ?_) | go_size)))) ?_
      intro x1
      go_wp2
      go_ret
      exact ⟨rfl, by (repeat' (first | (with_reducible exact Below.refl _ _) | (with_reducible assumption) | (with_reducible refine Below.alloc ?_ ?_ _) | (with_reducible refine Below.drew ?_) | (with_reducible refine below_drewN ?_ _) | (with_reducible refine Below.setCell ?_ ?_ _) | (with_reducible refine below_after ?_ ?_ _) | (with_reducible refine below_set ?_) | (with_reducible refine After.size_le _ ?_) | (with_reducible refine size_alloc_le ?_) | (with_reducible refine size_set_le ?_) | (with_reducible refine size_drewN_le ?_) | go_size))⟩
    · rw [decide_eq_false hn]
      have hd : decide (n ≤ q) = false := decide_eq_false hn
      clear HM hc
      go_enter Try.func85, Try.ntmps85
      go_wp2_with fail
      refine calls_after (HL.out _ (by (repeat' (first | (with_reducible exact Below.refl _ _) | (with_reducible assumption) | (with_reducible refine Below.alloc ?_ ?_ _) | (with_reducible refine Below.drew ?_) | (with_reducible refine below_drewN ?_ _) | (with_reducible refine Below.setCell ?_ ?_ _) | (with_reducible refine below_after ?_ ?_ _) | (with_reducible refine below_set ?_) | (with_reducible refine After.size_le _ ?_) | (with_reducible refine size_alloc_le ?_) | (with_reducible refine size_set_le ?_) | (with_reducible refine size_drewN_le ?_) | go_size)))) ?_
      intro x1
      go_wp2
      go_ret
      exact ⟨rfl, by (repeat' (first | (with_reducible exact Below.refl _ _) | (with_reducible assumption) | (with_reducible refine Below.alloc ?_ ?_ _) | (with_reducible refine Below.drew ?_) | (with_reducible refine below_drewN ?_ _) | (with_reducible refine Below.setCell ?_ ?_ _) | (with_reducible refine below_after ?_ ?_ _) | (with_reducible refine below_set ?_) | (with_reducible refine After.size_le _ ?_) | (with_reducible refine size_alloc_le ?_) | (with_reducible refine size_set_le ?_) | (with_reducible refine size_drewN_le ?_) | go_size))⟩
  · rw [if_neg hc, decide_eq_false hc] at HL
    have HM : Hid (mayB s l x n = false) := Lib.hid (by unfold mayB; simp [hc])
    rw [HM.out]
    clear HM hc
    go_enter Try.func85, Try.ntmps85
    go_wp2_with fail
    refine calls_after (HL.out _ (by (repeat' (first | (with_reducible exact Below.refl _ _) | (with_reducible assumption) | (with_reducible refine Below.alloc ?_ ?_ _) | (with_reducible refine Below.drew ?_) | (with_reducible refine below_drewN ?_ _) | (with_reducible refine Below.setCell ?_ ?_ _) | (with_reducible refine below_after ?_ ?_ _) | (with_reducible refine below_set ?_) | (with_reducible refine After.size_le _ ?_) | (with_reducible refine size_alloc_le ?_) | (with_reducible refine size_set_le ?_) | (with_reducible refine size_drewN_le ?_) | go_size)))) ?_
    intro x1
    go_wp2
    go_ret
    exact ⟨rfl, by (repeat' (first | (with_reducible exact Below.refl _ _) | (with_reducible assumption) | (with_reducible refine Below.alloc ?_ ?_ _) | (with_reducible refine Below.drew ?_) | (with_reducible refine below_drewN ?_ _) | (with_reducible refine Below.setCell ?_ ?_ _) | (with_reducible refine below_after ?_ ?_ _) | (with_reducible refine below_set ?_) | (with_reducible refine After.size_le _ ?_) | (with_reducible refine size_alloc_le ?_) | (with_reducible refine size_set_le ?_) | (with_reducible refine size_drewN_le ?_) | go_size))⟩
set_option maxRecDepth 100000 in
set_option maxHeartbeats 1000000 in
theorem rmay_any (s d l dy n : Int) (v : Value) (ps : List (Int × Int)) (w : World) (h : Prc w w.heap.size v ps) (hG : GoodW s d l ps) (hD : Dy dy) (hn : Ld n) :
    Calls Try.prog 86 #[.agg #[.int .i64 s, .int .i64 d, .int .i64 l], v, .int .i64 dy, .int .i64 n] w fun e w' => e = .returned (.bool (mayB s l (lft s d dy ps) n)) ∧ Below w.heap.size w w' := by
  obtain ⟨a0, cap0, hv⟩ := prc_slice h
  have HL : Hid (∀ W, Below w.heap.size w W → _) := fun W hW => rleft_any s d l dy v ps W (prc_on h hW) hG hD
  obtain ⟨x1, x2⟩ := lft_bd (s := s) hG.1.1.1 hG.2 hG.1.2.1 hD
  obtain ⟨y1, y2⟩ := sl_bd hG.1.1 x1 x2
  obtain ⟨n1, n2⟩ := hn
  have HM : Hid (mayB s l (lft s d dy ps) n = decide (l ≤ lft s d dy ps ∧ 5000 * n ≤ s * lft s d dy ps)) := Lib.hid (by unfold mayB; exact decide_eq_decide.2 (and_congr Iff.rfl sf_le))
  rw [HM.out]
  generalize lft s d dy ps = x at *
  clear h hG hD HM
  subst hv
  generalize ps.length = m at *
  by_cases hc : l ≤ x
  · have hd : decide (l ≤ x) = true := decide_eq_true hc
    by_cases hq : 5000 * n ≤ s * x
    · have hd2 : decide (5000 * n ≤ s * x) = true := decide_eq_true hq
      rw [decide_eq_true (show l ≤ x ∧ 5000 * n ≤ s * x from ⟨hc, hq⟩)]
      go_enter Try.func86, Try.ntmps86
      go_wp2_with fail
      refine calls_after (HL.out _ (by (repeat' (first | (with_reducible exact Below.refl _ _) | (with_reducible assumption) | (with_reducible refine Below.alloc ?_ ?_ _) | (with_reducible refine Below.drew ?_) | (with_reducible refine below_drewN ?_ _) | (with_reducible refine Below.setCell ?_ ?_ _) | (with_reducible refine below_after ?_ ?_ _) | (with_reducible refine below_set ?_) | (with_reducible refine After.size_le _ ?_) | (with_reducible refine size_alloc_le ?_) | (with_reducible refine size_set_le ?_) | (with_reducible refine size_drewN_le ?_) | go_size)))) ?_
      intro x1
      have hz_x1 := x1.out.size; (try simp only [World.size_alloc] at hz_x1); (try simp only [World.size_setCell] at hz_x1); (try simp only [World.size_alloc] at hz_x1); have k0_x1 : w.heap.size < x1.w.heap.size := (by omega); have j0_x1 : w.heap.size < x1.w.heap.size + 1 := (by omega)
      go_wp2
      go_ret
      exact ⟨rfl, by (repeat' (first | (with_reducible exact Below.refl _ _) | (with_reducible assumption) | (with_reducible refine Below.alloc ?_ ?_ _) | (with_reducible refine Below.drew ?_) | (with_reducible refine below_drewN ?_ _) | (with_reducible refine Below.setCell ?_ ?_ _) | (with_reducible refine below_after ?_ ?_ _) | (with_reducible refine below_set ?_) | (with_reducible refine After.size_le _ ?_) | (with_reducible refine size_alloc_le ?_) | (with_reducible refine size_set_le ?_) | (with_reducible refine size_drewN_le ?_) | go_size))⟩
    · have hd2 : decide (5000 * n ≤ s * x) = false := decide_eq_false hq
      rw [decide_eq_false (show ¬ (l ≤ x ∧ 5000 * n ≤ s * x) from fun h => hq h.2)]
      go_enter Try.func86, Try.ntmps86
      go_wp2_with fail
      refine calls_after (HL.out _ (by (repeat' (first | (with_reducible exact Below.refl _ _) | (with_reducible assumption) | (with_reducible refine Below.alloc ?_ ?_ _) | (with_reducible refine Below.drew ?_) | (with_reducible refine below_drewN ?_ _) | (with_reducible refine Below.setCell ?_ ?_ _) | (with_reducible refine below_after ?_ ?_ _) | (with_reducible refine below_set ?_) | (with_reducible refine After.size_le _ ?_) | (with_reducible refine size_alloc_le ?_) | (with_reducible refine size_set_le ?_) | (with_reducible refine size_drewN_le ?_) | go_size)))) ?_
      intro x1
      have hz_x1 := x1.out.size; (try simp only [World.size_alloc] at hz_x1); (try simp only [World.size_setCell] at hz_x1); (try simp only [World.size_alloc] at hz_x1); have k0_x1 : w.heap.size < x1.w.heap.size := (by omega); have j0_x1 : w.heap.size < x1.w.heap.size + 1 := (by omega)
      go_wp2
      go_ret
      exact ⟨rfl, by (repeat' (first | (with_reducible exact Below.refl _ _) | (with_reducible assumption) | (with_reducible refine Below.alloc ?_ ?_ _) | (with_reducible refine Below.drew ?_) | (with_reducible refine below_drewN ?_ _) | (with_reducible refine Below.setCell ?_ ?_ _) | (with_reducible refine below_after ?_ ?_ _) | (with_reducible refine below_set ?_) | (with_reducible refine After.size_le _ ?_) | (with_reducible refine size_alloc_le ?_) | (with_reducible refine size_set_le ?_) | (with_reducible refine size_drewN_le ?_) | go_size))⟩
  · have hd : decide (l ≤ x) = false := decide_eq_false hc
    rw [decide_eq_false (show ¬ (l ≤ x ∧ 5000 * n ≤ s * x) from fun h => hc h.1)]
    go_enter Try.func86, Try.ntmps86
    go_wp2_with fail
    refine calls_after (HL.out _ (by (repeat' (first | (with_reducible exact Below.refl _ _) | (with_reducible assumption) | (with_reducible refine Below.alloc ?_ ?_ _) | (with_reducible refine Below.drew ?_) | (with_reducible refine below_drewN ?_ _) | (with_reducible refine Below.setCell ?_ ?_ _) | (with_reducible refine below_after ?_ ?_ _) | (with_reducible refine below_set ?_) | (with_reducible refine After.size_le _ ?_) | (with_reducible refine size_alloc_le ?_) | (with_reducible refine size_set_le ?_) | (with_reducible refine size_drewN_le ?_) | go_size)))) ?_
    intro x1
    have hz_x1 := x1.out.size; (try simp only [World.size_alloc] at hz_x1); (try simp only [World.size_setCell] at hz_x1); (try simp only [World.size_alloc] at hz_x1); have k0_x1 : w.heap.size < x1.w.heap.size := (by omega); have j0_x1 : w.heap.size < x1.w.heap.size + 1 := (by omega)
    go_wp2
    go_ret
    exact ⟨rfl, by (repeat' (first | (with_reducible exact Below.refl _ _) | (with_reducible assumption) | (with_reducible refine Below.alloc ?_ ?_ _) | (with_reducible refine Below.drew ?_) | (with_reducible refine below_drewN ?_ _) | (with_reducible refine Below.setCell ?_ ?_ _) | (with_reducible refine below_after ?_ ?_ _) | (with_reducible refine below_set ?_) | (with_reducible refine After.size_le _ ?_) | (with_reducible refine size_alloc_le ?_) | (with_reducible refine size_set_le ?_) | (with_reducible refine size_drewN_le ?_) | go_size))⟩
end Go.Proofs.Ytnhkkboddoiinaa
