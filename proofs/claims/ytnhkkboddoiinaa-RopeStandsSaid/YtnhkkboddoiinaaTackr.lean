/- What tackles lift and what lifts a load: the reference's functions. -/
import Derived.Test.YtnhkkboddoiinaaTack
namespace Go.Proofs.Ytnhkkboddoiinaa
open Go.RowKit
attribute [local go_sem] After.cell After.frozen After.lt After.le After.ne After.ne' After.set_eq After.size_set After.lt_add

set_option maxRecDepth 100000 in
theorem rvalidTackle_any (p k : Int) (w : World) :
    Calls Try.prog 18 #[.agg #[.int .i64 p, .int .i64 k]] w fun e w' => e = .returned (.bool (decide (GoodT p k))) ∧ Below w.heap.size w w' := by
  by_cases hp : Btw p 1 6
  · have HP := Lib.hid (fun w => within_t p 1 6 w hp)
    have HK := Lib.hid (fun w => within_any k 1 100 w)
    have e : decide (GoodT p k) = decide (Btw k 1 100) := by unfold GoodT; simp [hp]
    rw [e]
    clear hp e
    generalize decide (Btw k 1 100) = b at *
    go_enter Try.func18, Try.ntmps18
    go_wp2_with (go_at_call 63; (first | (with_reducible refine (HP.out _).mono ?_) | (with_reducible refine (HK.out _).mono ?_)); rintro e w1 ⟨rfl, rfl⟩)
    go_ret
    exact ⟨rfl, by (repeat' (first | (with_reducible exact Below.refl _ _) | (with_reducible assumption) | (with_reducible refine Below.alloc ?_ ?_ _) | (with_reducible refine Below.drew ?_) | (with_reducible refine below_drewN ?_ _) | (with_reducible refine Below.setCell ?_ ?_ _) | (with_reducible refine below_after ?_ ?_ _) | (with_reducible refine below_set ?_) | (with_reducible refine After.size_le _ ?_) | (with_reducible refine size_alloc_le ?_) | (with_reducible refine size_set_le ?_) | (with_reducible refine size_drewN_le ?_) | go_size))⟩
  · have HP := Lib.hid (fun w => within_f p 1 6 w hp)
    have e : decide (GoodT p k) = false := by unfold GoodT; simp [hp]
    rw [e]
    clear hp e
    go_enter Try.func18, Try.ntmps18
    go_wp2_with (first | (go_at_call 63; refine (HP.out _).mono ?_; rintro e w1 ⟨rfl, rfl⟩))
    go_ret
    exact ⟨rfl, by (repeat' (first | (with_reducible exact Below.refl _ _) | (with_reducible assumption) | (with_reducible refine Below.alloc ?_ ?_ _) | (with_reducible refine Below.drew ?_) | (with_reducible refine below_drewN ?_ _) | (with_reducible refine Below.setCell ?_ ?_ _) | (with_reducible refine below_after ?_ ?_ _) | (with_reducible refine below_set ?_) | (with_reducible refine After.size_le _ ?_) | (with_reducible refine size_alloc_le ?_) | (with_reducible refine size_set_le ?_) | (with_reducible refine size_drewN_le ?_) | go_size))⟩
theorem rvalidTackle_b (p k : Int) (b : Bool) (hb : decide (GoodT p k) = b) (w : World) :
    Calls Try.prog 18 #[.agg #[.int .i64 p, .int .i64 k]] w fun e w' => e = .returned (.bool b) ∧ Below w.heap.size w w' := by subst hb; exact rvalidTackle_any p k w

set_option maxRecDepth 100000 in
set_option maxHeartbeats 400000 in
theorem rgain_any (i : Nat) (k : Int) (w : World) (hi : i ≤ 5) (hk : 1 ≤ k) (hk' : k ≤ 100) :
    Calls Try.prog 60 #[.agg #[.int .i64 ((i + 1 : Nat) : Int), .int .i64 k]] w fun e w' => e = .returned (.tuple #[.int .i64 (rN k i), .int .i64 (rD i)]) ∧ Below w.heap.size w w' := by
  go_enter Try.func60, Try.ntmps60
  go_wp2
  go_loop [2, 3, 4] (fun n d j => ∃ a : Nat, a ≤ i ∧ j = .int .i64 ((a + 1 : Nat) : Int) ∧ n = .int .i64 (rN k a) ∧ d = .int .i64 (rD a)) (fun _ _ j => i + 1 - (intOf j).toNat)
  case atStart => exact ⟨0, by omega, rfl, rfl, rfl⟩
  case round =>
    obtain ⟨a, ha, rfl, rfl, rfl⟩ := hrel
    obtain ⟨b1, b2, b3⟩ := rN_bd hk hk' a
    have b4 := rN_le hk hk' (i := a) (by omega)
    have b5 := rD_le (i := a) (by omega)
    clear b2
    by_cases hlt : a < i
    · have HN : Hid (rN k (a + 1) = 100 * rD a + k * rN k a) := rfl
      have HD : Hid (rD (a + 1) = 100 * rD a) := by show rD (a + 1) = _; unfold rD; rw [Int.pow_succ, Int.mul_comm]
      have m1 : 0 ≤ k * rN k a := Int.mul_nonneg (by omega) (by omega)
      have m2 : k * rN k a ≤ 100 * 60000000000 := Int.le_trans (Int.mul_le_mul_of_nonneg_right hk' (by omega)) (by omega)
      have hlt' : ((a + 1 : Nat) : Int) < ((i + 1 : Nat) : Int) := by omega
      go_wp2
      go_round
      case rel => exact ⟨a + 1, by omega, by go_num, by rw [HN.out], by rw [HD.out]⟩
      case measure => simp [intOf]; omega
    · obtain rfl : i = a := by omega
      go_wp2
      go_returns
      exact ⟨rfl, by (repeat' (first | (with_reducible exact Below.refl _ _) | (with_reducible assumption) | (with_reducible refine Below.alloc ?_ ?_ _) | (with_reducible refine Below.drew ?_) | (with_reducible refine below_drewN ?_ _) | (with_reducible refine Below.setCell ?_ ?_ _) | (with_reducible refine below_after ?_ ?_ _) | (with_reducible refine below_set ?_) | (with_reducible refine After.size_le _ ?_) | (with_reducible refine size_alloc_le ?_) | (with_reducible refine size_set_le ?_) | (with_reducible refine size_drewN_le ?_) | go_size))⟩

/-- The reference's fraction. -/
def rnT (p k : Int) : Int := rN k (p.toNat - 1)
def rdT (p : Int) : Int := rD (p.toNat - 1)
theorem rgainT_any (p k : Int) (w : World) (h : GoodT p k) :
    Calls Try.prog 60 #[.agg #[.int .i64 p, .int .i64 k]] w fun e w' => e = .returned (.tuple #[.int .i64 (rnT p k), .int .i64 (rdT p)]) ∧ Below w.heap.size w w' := by
  obtain ⟨⟨h1, h2⟩, h3, h4⟩ := h
  have := rgain_any (p.toNat - 1) k w (by omega) h3 h4
  rw [show ((p.toNat - 1 + 1 : Nat) : Int) = p by omega] at this
  exact this
theorem rnT_bd {p k : Int} (h : GoodT p k) : 1 ≤ rnT p k ∧ rnT p k ≤ 60000000000 ∧ 1 ≤ rdT p ∧ rdT p ≤ 10000000000 := by
  obtain ⟨⟨h1, h2⟩, h3, h4⟩ := h
  have a := rN_bd h3 h4 (p.toNat - 1)
  exact ⟨a.1, rN_le h3 h4 (by omega), a.2.2, rD_le (by omega)⟩
/-- The program's whole number is the reference's fraction, extended. -/
theorem gT_ext {p k : Int} (h : GoodT p k) : ∃ c : Int, 1 ≤ c ∧ gT p k = rnT p k * c ∧ 10000000000 = rdT p * c := by
  obtain ⟨⟨h1, h2⟩, h3, h4⟩ := h
  have := gsum_rN (k := k) (p.toNat - 1) (by omega)
  rw [show p.toNat - 1 + 1 = p.toNat by omega] at this
  exact ⟨_, this.2.2.1, this.1, this.2.1⟩

theorem rlift_eq {p k n : Int} (h : GoodT p k) : ratN (n * rnT p k) (rdT p) = ratN (n * gT p k) 10000000000 ∧ ratD (n * rnT p k) (rdT p) = ratD (n * gT p k) 10000000000 := by
  obtain ⟨c, hc, e1, e2⟩ := gT_ext h
  have := rnT_bd h
  rw [e1, e2, show n * (rnT p k * c) = n * rnT p k * c by grind]
  have := rat_scale (n := n * rnT p k) (d := rdT p) (c := c) (by omega) hc
  exact ⟨this.1.symm, this.2.symm⟩
theorem rpull_eq {p k n : Int} (h : GoodT p k) : -((-n * rdT p) / rnT p k) = plN p k n := by
  obtain ⟨c, hc, e1, e2⟩ := gT_ext h
  have := rnT_bd h
  unfold plN
  rw [e1, e2, show n * (rdT p * c) = (n * rdT p) * c by grind, ceil_scale hc]
  rw [Int.neg_mul]
  rfl
theorem rparts_eq {p k n m : Int} (h : GoodT p k) : n * rdT p ≤ m * rnT p k ↔ n * 10000000000 ≤ m * gT p k := by
  obtain ⟨c, hc, e1, e2⟩ := gT_ext h
  rw [e1, e2, show n * (rdT p * c) = (n * rdT p) * c by grind, show m * (rnT p k * c) = (m * rnT p k) * c by grind]
  exact (Int.mul_le_mul_right (by omega)).symm

set_option maxRecDepth 100000 in
set_option maxHeartbeats 400000 in
theorem rgainR_any (p k : Int) (w : World) :
    Calls Try.prog 16 #[.agg #[.int .i64 p, .int .i64 k]] w fun e w' => e = .returned (.tuple #[.agg #[.int .i64 (lfN p k 1), .int .i64 (lfD p k 1)], .int .i64 (lfE p k 1)]) ∧ Below w.heap.size w w' := by
  have hl : Ld 1 := by show _ ∧ _; omega
  by_cases hT : GoodT p k
  · have e : lfN p k 1 = ratN (1 * gT p k) 10000000000 ∧ lfD p k 1 = ratD (1 * gT p k) 10000000000 ∧ lfE p k 1 = 0 := by simp [lfN, lfD, lfE, hT, hl]
    have e2 := rlift_eq (n := 1) hT
    rw [e.1, e.2.1, e.2.2, ← e2.1, ← e2.2, Int.one_mul]
    have HV := Lib.hid (fun w => rvalidTackle_b p k true (by simp [hT]) w)
    have HG := Lib.hid (fun w => rgainT_any p k w hT)
    obtain ⟨b1, b2, b3, b4⟩ := rnT_bd hT
    generalize rnT p k = N at *
    generalize rdT p = D at *
    clear hT e e2
    go_enter Try.func16, Try.ntmps16
    go_wp2_with fail
    refine calls_after (HV.out _) ?_
    intro x1
    have hz_x1 := x1.out.size; (try simp only [World.size_alloc] at hz_x1); (try simp only [World.size_setCell] at hz_x1); (try simp only [World.size_alloc] at hz_x1); have k0_x1 : w.heap.size < x1.w.heap.size := (by omega); have j0_x1 : w.heap.size < x1.w.heap.size + 1 := (by omega); have k1_x1 : w.heap.size + 1 < x1.w.heap.size := (by omega); have j1_x1 : w.heap.size + 1 < x1.w.heap.size + 1 := (by omega)
    go_wp2_with fail
    refine calls_after2 (HG.out _) ?_
    intro x2
    have hz_x2 := x2.out.size; (try simp only [World.size_alloc] at hz_x2); (try simp only [World.size_setCell] at hz_x2); (try simp only [World.size_alloc] at hz_x2); have k0_x2 : w.heap.size < x2.w.heap.size := (by omega); have j0_x2 : w.heap.size < x2.w.heap.size + 1 := (by omega); have k1_x2 : w.heap.size + 1 < x2.w.heap.size := (by omega); have j1_x2 : w.heap.size + 1 < x2.w.heap.size + 1 := (by omega)
    go_wp2_with fail
    refine calls_after2 (rlowest_any _ _ _ (by omega) (by omega) (by omega) (by omega)) ?_
    intro x3
    have hz_x3 := x3.out.size; (try simp only [World.size_alloc] at hz_x3); (try simp only [World.size_setCell] at hz_x3); (try simp only [World.size_alloc] at hz_x3); have k0_x3 : w.heap.size < x3.w.heap.size := (by omega); have j0_x3 : w.heap.size < x3.w.heap.size + 1 := (by omega); have k1_x3 : w.heap.size + 1 < x3.w.heap.size := (by omega); have j1_x3 : w.heap.size + 1 < x3.w.heap.size + 1 := (by omega)
    go_wp2
    go_returns
    exact ⟨rfl, by (repeat' (first | (with_reducible exact Below.refl _ _) | (with_reducible assumption) | (with_reducible refine Below.alloc ?_ ?_ _) | (with_reducible refine Below.drew ?_) | (with_reducible refine below_drewN ?_ _) | (with_reducible refine Below.setCell ?_ ?_ _) | (with_reducible refine below_after ?_ ?_ _) | (with_reducible refine below_set ?_) | (with_reducible refine After.size_le _ ?_) | (with_reducible refine size_alloc_le ?_) | (with_reducible refine size_set_le ?_) | (with_reducible refine size_drewN_le ?_) | go_size))⟩
  · have e : lfN p k 1 = 0 ∧ lfD p k 1 = 0 ∧ lfE p k 1 = 1 := by simp [lfN, lfD, lfE, hT]
    rw [e.1, e.2.1, e.2.2]
    have HV := Lib.hid (fun w => rvalidTackle_b p k false (by simp [hT]) w)
    clear hT e
    go_enter Try.func16, Try.ntmps16
    go_wp2_with fail
    refine calls_after (HV.out _) ?_
    intro x1
    have hz_x1 := x1.out.size; (try simp only [World.size_alloc] at hz_x1); (try simp only [World.size_setCell] at hz_x1); (try simp only [World.size_alloc] at hz_x1); have k0_x1 : w.heap.size < x1.w.heap.size := (by omega); have j0_x1 : w.heap.size < x1.w.heap.size + 1 := (by omega); have k1_x1 : w.heap.size + 1 < x1.w.heap.size := (by omega); have j1_x1 : w.heap.size + 1 < x1.w.heap.size + 1 := (by omega)
    go_wp2
    go_returns
    exact ⟨rfl, by (repeat' (first | (with_reducible exact Below.refl _ _) | (with_reducible assumption) | (with_reducible refine Below.alloc ?_ ?_ _) | (with_reducible refine Below.drew ?_) | (with_reducible refine below_drewN ?_ _) | (with_reducible refine Below.setCell ?_ ?_ _) | (with_reducible refine below_after ?_ ?_ _) | (with_reducible refine below_set ?_) | (with_reducible refine After.size_le _ ?_) | (with_reducible refine size_alloc_le ?_) | (with_reducible refine size_set_le ?_) | (with_reducible refine size_drewN_le ?_) | go_size))⟩

set_option maxRecDepth 100000 in
set_option maxHeartbeats 400000 in
theorem rlifted_any (p k n : Int) (w : World) :
    Calls Try.prog 20 #[.agg #[.int .i64 p, .int .i64 k], .int .i64 n] w fun e w' => e = .returned (.tuple #[.agg #[.int .i64 (lfN p k n), .int .i64 (lfD p k n)], .int .i64 (lfE p k n)]) ∧ Below w.heap.size w w' := by
  by_cases hT : GoodT p k
  · by_cases hn : Ld n
    · have e : lfN p k n = ratN (n * gT p k) 10000000000 ∧ lfD p k n = ratD (n * gT p k) 10000000000 ∧ lfE p k n = 0 := by simp [lfN, lfD, lfE, hT, hn]
      have e2 := rlift_eq (n := n) hT
      rw [e.1, e.2.1, e.2.2, ← e2.1, ← e2.2]
      have HV := Lib.hid (fun w => rvalidTackle_b p k true (by simp [hT]) w)
      have HL := Lib.hid (fun w => rload_any n true (by simp [hn]) w)
      have HG := Lib.hid (fun w => rgainT_any p k w hT)
      obtain ⟨b1, b2, b3, b4⟩ := rnT_bd hT
      obtain ⟨n1, n2⟩ := hn
      generalize rnT p k = N at *
      generalize rdT p = D at *
      have m1 : 0 ≤ n * N := Int.mul_nonneg n1 (by omega)
      have m2 : n * N ≤ 60000000000000000 := Int.le_trans (Int.mul_le_mul_of_nonneg_right n2 (by omega)) (by omega)
      clear hT e e2
      go_enter Try.func20, Try.ntmps20
      go_wp2_with fail
      refine calls_after (HV.out _) ?_
      intro x1
      have hz_x1 := x1.out.size; (try simp only [World.size_alloc] at hz_x1); (try simp only [World.size_setCell] at hz_x1); (try simp only [World.size_alloc] at hz_x1); have k0_x1 : w.heap.size < x1.w.heap.size := (by omega); have j0_x1 : w.heap.size < x1.w.heap.size + 1 := (by omega); have k1_x1 : w.heap.size + 1 < x1.w.heap.size := (by omega); have j1_x1 : w.heap.size + 1 < x1.w.heap.size + 1 := (by omega)
      go_wp2_with (go_at_call 67; refine (HL.out _).mono ?_; rintro e w1 ⟨rfl, rfl⟩)
      refine calls_after2 (HG.out _) ?_
      intro x2
      have hz_x2 := x2.out.size; (try simp only [World.size_alloc] at hz_x2); (try simp only [World.size_setCell] at hz_x2); (try simp only [World.size_alloc] at hz_x2); have k0_x2 : w.heap.size < x2.w.heap.size := (by omega); have j0_x2 : w.heap.size < x2.w.heap.size + 1 := (by omega); have k1_x2 : w.heap.size + 1 < x2.w.heap.size := (by omega); have j1_x2 : w.heap.size + 1 < x2.w.heap.size + 1 := (by omega)
      go_wp2_with fail
      refine calls_after2 (rlowest_any _ _ _ (by omega) (by omega) (by omega) (by omega)) ?_
      intro x3
      have hz_x3 := x3.out.size; (try simp only [World.size_alloc] at hz_x3); (try simp only [World.size_setCell] at hz_x3); (try simp only [World.size_alloc] at hz_x3); have k0_x3 : w.heap.size < x3.w.heap.size := (by omega); have j0_x3 : w.heap.size < x3.w.heap.size + 1 := (by omega); have k1_x3 : w.heap.size + 1 < x3.w.heap.size := (by omega); have j1_x3 : w.heap.size + 1 < x3.w.heap.size + 1 := (by omega)
      go_wp2
      go_returns
      exact ⟨rfl, by (repeat' (first | (with_reducible exact Below.refl _ _) | (with_reducible assumption) | (with_reducible refine Below.alloc ?_ ?_ _) | (with_reducible refine Below.drew ?_) | (with_reducible refine below_drewN ?_ _) | (with_reducible refine Below.setCell ?_ ?_ _) | (with_reducible refine below_after ?_ ?_ _) | (with_reducible refine below_set ?_) | (with_reducible refine After.size_le _ ?_) | (with_reducible refine size_alloc_le ?_) | (with_reducible refine size_set_le ?_) | (with_reducible refine size_drewN_le ?_) | go_size))⟩
    · have e : lfN p k n = 0 ∧ lfD p k n = 0 ∧ lfE p k n = 7 := by simp [lfN, lfD, lfE, hT, hn]
      rw [e.1, e.2.1, e.2.2]
      have HV := Lib.hid (fun w => rvalidTackle_b p k true (by simp [hT]) w)
      have HL := Lib.hid (fun w => rload_any n false (by simp [hn]) w)
      clear hT hn e
      go_enter Try.func20, Try.ntmps20
      go_wp2_with fail
      refine calls_after (HV.out _) ?_
      intro x1
      have hz_x1 := x1.out.size; (try simp only [World.size_alloc] at hz_x1); (try simp only [World.size_setCell] at hz_x1); (try simp only [World.size_alloc] at hz_x1); have k0_x1 : w.heap.size < x1.w.heap.size := (by omega); have j0_x1 : w.heap.size < x1.w.heap.size + 1 := (by omega); have k1_x1 : w.heap.size + 1 < x1.w.heap.size := (by omega); have j1_x1 : w.heap.size + 1 < x1.w.heap.size + 1 := (by omega)
      go_wp2_with (go_at_call 67; refine (HL.out _).mono ?_; rintro e w1 ⟨rfl, rfl⟩)
      go_returns
      exact ⟨rfl, by (repeat' (first | (with_reducible exact Below.refl _ _) | (with_reducible assumption) | (with_reducible refine Below.alloc ?_ ?_ _) | (with_reducible refine Below.drew ?_) | (with_reducible refine below_drewN ?_ _) | (with_reducible refine Below.setCell ?_ ?_ _) | (with_reducible refine below_after ?_ ?_ _) | (with_reducible refine below_set ?_) | (with_reducible refine After.size_le _ ?_) | (with_reducible refine size_alloc_le ?_) | (with_reducible refine size_set_le ?_) | (with_reducible refine size_drewN_le ?_) | go_size))⟩
  · have e : lfN p k n = 0 ∧ lfD p k n = 0 ∧ lfE p k n = 1 := by simp [lfN, lfD, lfE, hT]
    rw [e.1, e.2.1, e.2.2]
    have HV := Lib.hid (fun w => rvalidTackle_b p k false (by simp [hT]) w)
    clear hT e
    go_enter Try.func20, Try.ntmps20
    go_wp2_with fail
    refine calls_after (HV.out _) ?_
    intro x1
    have hz_x1 := x1.out.size; (try simp only [World.size_alloc] at hz_x1); (try simp only [World.size_setCell] at hz_x1); (try simp only [World.size_alloc] at hz_x1); have k0_x1 : w.heap.size < x1.w.heap.size := (by omega); have j0_x1 : w.heap.size < x1.w.heap.size + 1 := (by omega); have k1_x1 : w.heap.size + 1 < x1.w.heap.size := (by omega); have j1_x1 : w.heap.size + 1 < x1.w.heap.size + 1 := (by omega)
    go_wp2
    go_returns
    exact ⟨rfl, by (repeat' (first | (with_reducible exact Below.refl _ _) | (with_reducible assumption) | (with_reducible refine Below.alloc ?_ ?_ _) | (with_reducible refine Below.drew ?_) | (with_reducible refine below_drewN ?_ _) | (with_reducible refine Below.setCell ?_ ?_ _) | (with_reducible refine below_after ?_ ?_ _) | (with_reducible refine below_set ?_) | (with_reducible refine After.size_le _ ?_) | (with_reducible refine size_alloc_le ?_) | (with_reducible refine size_set_le ?_) | (with_reducible refine size_drewN_le ?_) | go_size))⟩

set_option maxRecDepth 100000 in
set_option maxHeartbeats 400000 in
theorem rpull_any (p k n : Int) (w : World) :
    Calls Try.prog 22 #[.agg #[.int .i64 p, .int .i64 k], .int .i64 n] w fun e w' => e = .returned (.tuple #[.int .i64 (puN p k n), .int .i64 (lfE p k n)]) ∧ Below w.heap.size w w' := by
  by_cases hT : GoodT p k
  · have HV := Lib.hid (fun w => rvalidTackle_b p k true (by simp [hT]) w)
    by_cases hn : Ld n
    · have e : puN p k n = plN p k n ∧ lfE p k n = 0 := by simp [puN, lfE, hT, hn]
      have e2 := rpull_eq (n := n) hT
      have hpb := plN_bd hT hn.1
      rw [e.1, e.2]
      rw [← e2] at hpb ⊢
      have HL := Lib.hid (fun w => rload_any n true (by simp [hn]) w)
      have HG := Lib.hid (fun w => rgainT_any p k w hT)
      obtain ⟨b1, b2, b3, b4⟩ := rnT_bd hT
      obtain ⟨n1, n2⟩ := hn
      generalize rnT p k = N at *
      generalize rdT p = D at *
      have m1 : 0 ≤ n * D := Int.mul_nonneg n1 (by omega)
      have m2 : n * D ≤ 10000000000000000 := Int.le_trans (Int.mul_le_mul_of_nonneg_right n2 (by omega)) (by omega)
      have M3 : Hid (-n * D = -(n * D)) := Int.neg_mul _ _
      have m4 : -10000000000000000 ≤ -n * D := by rw [M3.out]; omega
      have m5 : -n * D ≤ 0 := by rw [M3.out]; omega
      obtain ⟨p1, p2⟩ := hpb
      have p3 : -1000000 ≤ -n * D / N := by omega
      have p4 : -n * D / N ≤ 0 := by omega
      clear m1 m2 M3
      clear hT e e2
      go_enter Try.func22, Try.ntmps22
      go_wp2_with fail
      refine calls_after (HV.out _) ?_
      intro x1
      have hz_x1 := x1.out.size; (try simp only [World.size_alloc] at hz_x1); (try simp only [World.size_setCell] at hz_x1); (try simp only [World.size_alloc] at hz_x1); have k0_x1 : w.heap.size < x1.w.heap.size := (by omega); have j0_x1 : w.heap.size < x1.w.heap.size + 1 := (by omega)
      go_wp2_with (go_at_call 67; refine (HL.out _).mono ?_; rintro e w1 ⟨rfl, rfl⟩)
      refine calls_after2 (HG.out _) ?_
      intro x2
      have hz_x2 := x2.out.size; (try simp only [World.size_alloc] at hz_x2); (try simp only [World.size_setCell] at hz_x2); (try simp only [World.size_alloc] at hz_x2); have k0_x2 : w.heap.size < x2.w.heap.size := (by omega); have j0_x2 : w.heap.size < x2.w.heap.size + 1 := (by omega)
      go_wp2_with fail
      refine calls_after2 (floor_any _ _ _ (by omega) (by omega) (by omega) (by omega)) ?_
      intro x3
      go_wp2
      go_returns
      exact ⟨rfl, by (repeat' (first | (with_reducible exact Below.refl _ _) | (with_reducible assumption) | (with_reducible refine Below.alloc ?_ ?_ _) | (with_reducible refine Below.drew ?_) | (with_reducible refine below_drewN ?_ _) | (with_reducible refine Below.setCell ?_ ?_ _) | (with_reducible refine below_after ?_ ?_ _) | (with_reducible refine below_set ?_) | (with_reducible refine After.size_le _ ?_) | (with_reducible refine size_alloc_le ?_) | (with_reducible refine size_set_le ?_) | (with_reducible refine size_drewN_le ?_) | go_size))⟩
    · have e : puN p k n = 0 ∧ lfE p k n = 7 := by simp [puN, lfE, hT, hn]
      rw [e.1, e.2]
      have HL := Lib.hid (fun w => rload_any n false (by simp [hn]) w)
      clear hT hn e
      go_enter Try.func22, Try.ntmps22
      go_wp2_with fail
      refine calls_after (HV.out _) ?_
      intro x1
      go_wp2_with (go_at_call 67; refine (HL.out _).mono ?_; rintro e w1 ⟨rfl, rfl⟩)
      go_returns
      exact ⟨rfl, by (repeat' (first | (with_reducible exact Below.refl _ _) | (with_reducible assumption) | (with_reducible refine Below.alloc ?_ ?_ _) | (with_reducible refine Below.drew ?_) | (with_reducible refine below_drewN ?_ _) | (with_reducible refine Below.setCell ?_ ?_ _) | (with_reducible refine below_after ?_ ?_ _) | (with_reducible refine below_set ?_) | (with_reducible refine After.size_le _ ?_) | (with_reducible refine size_alloc_le ?_) | (with_reducible refine size_set_le ?_) | (with_reducible refine size_drewN_le ?_) | go_size))⟩
  · have HV := Lib.hid (fun w => rvalidTackle_b p k false (by simp [hT]) w)
    have e : puN p k n = 0 ∧ lfE p k n = 1 := by simp [puN, lfE, hT]
    rw [e.1, e.2]
    clear hT e
    go_enter Try.func22, Try.ntmps22
    go_wp2_with fail
    refine calls_after (HV.out _) ?_
    intro x1
    go_wp2
    go_returns
    exact ⟨rfl, by (repeat' (first | (with_reducible exact Below.refl _ _) | (with_reducible assumption) | (with_reducible refine Below.alloc ?_ ?_ _) | (with_reducible refine Below.drew ?_) | (with_reducible refine below_drewN ?_ _) | (with_reducible refine Below.setCell ?_ ?_ _) | (with_reducible refine below_after ?_ ?_ _) | (with_reducible refine below_set ?_) | (with_reducible refine After.size_le _ ?_) | (with_reducible refine size_alloc_le ?_) | (with_reducible refine size_set_le ?_) | (with_reducible refine size_drewN_le ?_) | go_size))⟩

set_option maxRecDepth 100000 in
set_option maxHeartbeats 400000 in
theorem rhauled_any (p k n : Int) (w : World) :
    Calls Try.prog 24 #[.agg #[.int .i64 p, .int .i64 k], .int .i64 n] w fun e w' => e = .returned (.tuple #[.int .i64 (huN p k n), .int .i64 (huE p k n)]) ∧ Below w.heap.size w w' := by
  by_cases hT : GoodT p k
  · have HV := Lib.hid (fun w => rvalidTackle_b p k true (by simp [hT]) w)
    by_cases hn : Btw n 0 200000
    · have e : huN p k n = p * n ∧ huE p k n = 0 := by simp [huN, huE, hT, hn]
      rw [e.1, e.2]
      have HL := Lib.hid (fun w => within_t n 0 200000 w hn)
      obtain ⟨b1, b2⟩ := haul_bd hT hn
      clear hT e hn
      go_enter Try.func24, Try.ntmps24
      go_wp2_with fail
      refine calls_after (HV.out _) ?_
      intro x1
      have hz_x1 := x1.out.size; (try simp only [World.size_alloc] at hz_x1); (try simp only [World.size_setCell] at hz_x1); (try simp only [World.size_alloc] at hz_x1); have k0_x1 : w.heap.size < x1.w.heap.size := (by omega); have j0_x1 : w.heap.size < x1.w.heap.size + 1 := (by omega)
      go_wp2_with (go_at_call 63; refine (HL.out _).mono ?_; rintro e w1 ⟨rfl, rfl⟩)
      go_returns
      exact ⟨rfl, by (repeat' (first | (with_reducible exact Below.refl _ _) | (with_reducible assumption) | (with_reducible refine Below.alloc ?_ ?_ _) | (with_reducible refine Below.drew ?_) | (with_reducible refine below_drewN ?_ _) | (with_reducible refine Below.setCell ?_ ?_ _) | (with_reducible refine below_after ?_ ?_ _) | (with_reducible refine below_set ?_) | (with_reducible refine After.size_le _ ?_) | (with_reducible refine size_alloc_le ?_) | (with_reducible refine size_set_le ?_) | (with_reducible refine size_drewN_le ?_) | go_size))⟩
    · have e : huN p k n = 0 ∧ huE p k n = 7 := by simp [huN, huE, hT, hn]
      rw [e.1, e.2]
      have HL := Lib.hid (fun w => within_f n 0 200000 w hn)
      clear hT hn e
      go_enter Try.func24, Try.ntmps24
      go_wp2_with fail
      refine calls_after (HV.out _) ?_
      intro x1
      go_wp2_with (go_at_call 63; refine (HL.out _).mono ?_; rintro e w1 ⟨rfl, rfl⟩)
      go_returns
      exact ⟨rfl, by (repeat' (first | (with_reducible exact Below.refl _ _) | (with_reducible assumption) | (with_reducible refine Below.alloc ?_ ?_ _) | (with_reducible refine Below.drew ?_) | (with_reducible refine below_drewN ?_ _) | (with_reducible refine Below.setCell ?_ ?_ _) | (with_reducible refine below_after ?_ ?_ _) | (with_reducible refine below_set ?_) | (with_reducible refine After.size_le _ ?_) | (with_reducible refine size_alloc_le ?_) | (with_reducible refine size_set_le ?_) | (with_reducible refine size_drewN_le ?_) | go_size))⟩
  · have HV := Lib.hid (fun w => rvalidTackle_b p k false (by simp [hT]) w)
    have e : huN p k n = 0 ∧ huE p k n = 1 := by simp [huN, huE, hT]
    rw [e.1, e.2]
    clear hT e
    go_enter Try.func24, Try.ntmps24
    go_wp2_with fail
    refine calls_after (HV.out _) ?_
    intro x1
    go_wp2
    go_returns
    exact ⟨rfl, by (repeat' (first | (with_reducible exact Below.refl _ _) | (with_reducible assumption) | (with_reducible refine Below.alloc ?_ ?_ _) | (with_reducible refine Below.drew ?_) | (with_reducible refine below_drewN ?_ _) | (with_reducible refine Below.setCell ?_ ?_ _) | (with_reducible refine below_after ?_ ?_ _) | (with_reducible refine below_set ?_) | (with_reducible refine After.size_le _ ?_) | (with_reducible refine size_alloc_le ?_) | (with_reducible refine size_set_le ?_) | (with_reducible refine size_drewN_le ?_) | go_size))⟩
end Go.Proofs.Ytnhkkboddoiinaa
