/- What tackles lift and what lifts a load: the program's functions. -/
import Derived.Test.YtccjfmhbmieigaaDoorRoTens
namespace Go.Proofs.YtccjfmhbmieigaaDoor.Ro
open Go.Proofs.YtccjfmhbmieigaaDoor
open Go.RowKit
attribute [local go_sem] After.cell After.frozen After.lt After.le After.ne After.ne' After.set_eq After.size_set After.lt_add

/-- A valid tackle. -/
def GoodT (p k : Int) : Prop := Btw p 1 6 ∧ Btw k 1 100
instance (p k : Int) : Decidable (GoodT p k) := by unfold GoodT; infer_instance

/-- What a tackle lifts by a pull of one newton, times 10^10. -/
def gT (p k : Int) : Int := gsum k p.toNat
theorem gT_bd {p k : Int} (h : GoodT p k) : 10000000000 ≤ gT p k ∧ gT p k ≤ 60000000000 := by
  obtain ⟨⟨h1, h2⟩, h3, h4⟩ := h
  obtain ⟨m, hm⟩ : ∃ m, p.toNat = m + 1 := ⟨p.toNat - 1, by omega⟩
  have a := gsum_ge h3 h4 m
  have b := (gsum_bd h3 h4 (m + 1)).2
  unfold gT; rw [hm]; omega

set_option maxRecDepth 100000 in
theorem validTackle_any (p k : Int) (w : World) :
    Calls Tryd.prog 58 #[.agg #[.int .i64 p, .int .i64 k]] w fun e w' => e = .returned (.bool (decide (GoodT p k))) ∧ Below w.heap.size w w' := by
  by_cases hp : Btw p 1 6
  · have HP := Lib.hid (fun w => between_t p 1 6 w hp)
    have HK := Lib.hid (fun w => validKeep_any k _ rfl w)
    have e : decide (GoodT p k) = decide (Btw k 1 100) := by unfold GoodT; simp [hp]
    rw [e]
    clear hp e
    generalize decide (Btw k 1 100) = b at *
    go_enter Tryd.func58, Tryd.ntmps58
    go_wp2_with (first | (go_at_call 65; refine (HP.out _).mono ?_; rintro e w1 ⟨rfl, rfl⟩) | (go_at_call 82; refine (HK.out _).mono ?_; rintro e w1 ⟨rfl, rfl⟩))
    go_ret
    exact ⟨rfl, by (repeat' (first | (with_reducible exact Below.refl _ _) | (with_reducible assumption) | (with_reducible refine Below.alloc ?_ ?_ _) | (with_reducible refine Below.drew ?_) | (with_reducible refine below_drewN ?_ _) | (with_reducible refine Below.setCell ?_ ?_ _) | (with_reducible refine below_after ?_ ?_ _) | (with_reducible refine below_set ?_) | (with_reducible refine After.size_le _ ?_) | (with_reducible refine size_alloc_le ?_) | (with_reducible refine size_set_le ?_) | (with_reducible refine size_drewN_le ?_) | go_size))⟩
  · have HP := Lib.hid (fun w => between_f p 1 6 w hp)
    have e : decide (GoodT p k) = false := by unfold GoodT; simp [hp]
    rw [e]
    clear hp e
    go_enter Tryd.func58, Tryd.ntmps58
    go_wp2_with (first | (go_at_call 65; refine (HP.out _).mono ?_; rintro e w1 ⟨rfl, rfl⟩))
    go_ret
    exact ⟨rfl, by (repeat' (first | (with_reducible exact Below.refl _ _) | (with_reducible assumption) | (with_reducible refine Below.alloc ?_ ?_ _) | (with_reducible refine Below.drew ?_) | (with_reducible refine below_drewN ?_ _) | (with_reducible refine Below.setCell ?_ ?_ _) | (with_reducible refine below_after ?_ ?_ _) | (with_reducible refine below_set ?_) | (with_reducible refine After.size_le _ ?_) | (with_reducible refine size_alloc_le ?_) | (with_reducible refine size_set_le ?_) | (with_reducible refine size_drewN_le ?_) | go_size))⟩
theorem validTackle_b (p k : Int) (b : Bool) (hb : decide (GoodT p k) = b) (w : World) :
    Calls Tryd.prog 58 #[.agg #[.int .i64 p, .int .i64 k]] w fun e w' => e = .returned (.bool b) ∧ Below w.heap.size w w' := by subst hb; exact validTackle_any p k w

theorem gainT_any (p k : Int) (w : World) (h : GoodT p k) :
    Calls Tryd.prog 81 #[.agg #[.int .i64 p, .int .i64 k]] w fun e w' => e = .returned (.int .i64 (gT p k)) ∧ Below w.heap.size w w' := by
  obtain ⟨⟨h1, h2⟩, h3, h4⟩ := h
  have := gain_any p.toNat k w (by omega) h3 h4
  rw [Int.toNat_of_nonneg (by omega)] at this
  exact this

/-- The least pull that lifts a load. -/
def plN (p k n : Int) : Int := ceilD (n * 10000000000) (gT p k)
theorem plN_le {p k n m : Int} (h : GoodT p k) : plN p k n ≤ m ↔ n * 10000000000 ≤ m * gT p k := ceil_le (by have := gT_bd h; omega)
theorem plN_bd {p k n : Int} (h : GoodT p k) (hn : 0 ≤ n) : 0 ≤ plN p k n ∧ plN p k n ≤ n := by
  have := gT_bd h
  refine ⟨ceil_nonneg (by omega) (by omega), (plN_le h).2 ?_⟩
  exact Int.mul_le_mul_of_nonneg_left (by omega) hn

set_option maxRecDepth 100000 in
theorem leastPull_any (p k n : Int) (w : World) (h : GoodT p k) (hn : Ld n) :
    Calls Tryd.prog 60 #[.agg #[.int .i64 p, .int .i64 k], .int .i64 n] w fun e w' => e = .returned (.int .i64 (plN p k n)) ∧ Below w.heap.size w w' := by
  have HG := Lib.hid (fun w => gainT_any p k w h)
  obtain ⟨g1, g2⟩ := gT_bd h
  obtain ⟨n1, n2⟩ := hn
  have HP : Hid (plN p k n = ceilD (n * 10000000000) (gT p k)) := rfl
  rw [HP.out]
  generalize gT p k = g at *
  clear HP h
  go_enter Tryd.func60, Tryd.ntmps60
  go_wp2_with fail
  refine calls_after (HG.out _) ?_
  intro x1
  go_wp2_with fail
  refine calls_after2 (up_any _ _ _ (by omega) (by omega) (by omega) (by omega)) ?_
  intro x2
  go_wp2
  go_ret
  exact ⟨rfl, by (repeat' (first | (with_reducible exact Below.refl _ _) | (with_reducible assumption) | (with_reducible refine Below.alloc ?_ ?_ _) | (with_reducible refine Below.drew ?_) | (with_reducible refine below_drewN ?_ _) | (with_reducible refine Below.setCell ?_ ?_ _) | (with_reducible refine below_after ?_ ?_ _) | (with_reducible refine below_set ?_) | (with_reducible refine After.size_le _ ?_) | (with_reducible refine size_alloc_le ?_) | (with_reducible refine size_set_le ?_) | (with_reducible refine size_drewN_le ?_) | go_size))⟩

/-! ### Lifted -/
def lfN (p k n : Int) : Int := if GoodT p k ∧ Ld n then ratN (n * gT p k) 10000000000 else 0
def lfD (p k n : Int) : Int := if GoodT p k ∧ Ld n then ratD (n * gT p k) 10000000000 else 0
def lfE (p k n : Int) : Int := if GoodT p k then if Ld n then 0 else 7 else 1

theorem lift_bd {p k n : Int} (h : GoodT p k) (hn : Ld n) : 0 ≤ n * gT p k ∧ n * gT p k ≤ 60000000000000000 := by
  obtain ⟨g1, g2⟩ := gT_bd h
  obtain ⟨n1, n2⟩ := hn
  refine ⟨Int.mul_nonneg n1 (by omega), ?_⟩
  exact Int.le_trans (Int.mul_le_mul_of_nonneg_right n2 (by omega)) (by omega)

set_option maxRecDepth 100000 in
set_option maxHeartbeats 400000 in
theorem lifted_any (p k n : Int) (w : World) :
    Calls Tryd.prog 57 #[.agg #[.int .i64 p, .int .i64 k], .int .i64 n] w fun e w' => e = .returned (.tuple #[.agg #[.int .i64 (lfN p k n), .int .i64 (lfD p k n)], .int .i64 (lfE p k n)]) ∧ Below w.heap.size w w' := by
  by_cases hT : GoodT p k
  · by_cases hn : Ld n
    · have e : lfN p k n = ratN (n * gT p k) 10000000000 ∧ lfD p k n = ratD (n * gT p k) 10000000000 ∧ lfE p k n = 0 := by simp [lfN, lfD, lfE, hT, hn]
      rw [e.1, e.2.1, e.2.2]
      have HV := Lib.hid (fun w => validTackle_b p k true (by simp [hT]) w)
      have HL := Lib.hid (fun w => validLoad_any n true (by simp [hn]) w)
      have HG := Lib.hid (fun w => gainT_any p k w hT)
      obtain ⟨b1, b2⟩ := lift_bd hT hn
      have HR := Lib.hid (fun w => ratioI_any (n * gT p k) 10000000000 w b1 (by omega) (by omega) (by omega))
      obtain ⟨g1, g2⟩ := gT_bd hT
      obtain ⟨n1, n2⟩ := hn
      generalize gT p k = g at *
      clear hT e
      go_enter Tryd.func57, Tryd.ntmps57
      go_wp2_with fail
      refine calls_after (HV.out _) ?_
      intro x1
      have hz_x1 := x1.out.size; (try simp only [World.size_alloc] at hz_x1); (try simp only [World.size_setCell] at hz_x1); (try simp only [World.size_alloc] at hz_x1); have k0_x1 : w.heap.size < x1.w.heap.size := (by omega); have j0_x1 : w.heap.size < x1.w.heap.size + 1 := (by omega); have k1_x1 : w.heap.size + 1 < x1.w.heap.size := (by omega); have j1_x1 : w.heap.size + 1 < x1.w.heap.size + 1 := (by omega)
      go_wp2_with (go_at_call 59; refine (HL.out _).mono ?_; rintro e w1 ⟨rfl, rfl⟩)
      refine calls_after2 (HG.out _) ?_
      intro x2
      have hz_x2 := x2.out.size; (try simp only [World.size_alloc] at hz_x2); (try simp only [World.size_setCell] at hz_x2); (try simp only [World.size_alloc] at hz_x2); have k0_x2 : w.heap.size < x2.w.heap.size := (by omega); have j0_x2 : w.heap.size < x2.w.heap.size + 1 := (by omega); have k1_x2 : w.heap.size + 1 < x2.w.heap.size := (by omega); have j1_x2 : w.heap.size + 1 < x2.w.heap.size + 1 := (by omega)
      go_wp2_with fail
      refine calls_after2 (HR.out _) ?_
      intro x3
      have hz_x3 := x3.out.size; (try simp only [World.size_alloc] at hz_x3); (try simp only [World.size_setCell] at hz_x3); (try simp only [World.size_alloc] at hz_x3); have k0_x3 : w.heap.size < x3.w.heap.size := (by omega); have j0_x3 : w.heap.size < x3.w.heap.size + 1 := (by omega); have k1_x3 : w.heap.size + 1 < x3.w.heap.size := (by omega); have j1_x3 : w.heap.size + 1 < x3.w.heap.size + 1 := (by omega)
      go_wp2
      go_returns
      exact ⟨rfl, by (repeat' (first | (with_reducible exact Below.refl _ _) | (with_reducible assumption) | (with_reducible refine Below.alloc ?_ ?_ _) | (with_reducible refine Below.drew ?_) | (with_reducible refine below_drewN ?_ _) | (with_reducible refine Below.setCell ?_ ?_ _) | (with_reducible refine below_after ?_ ?_ _) | (with_reducible refine below_set ?_) | (with_reducible refine After.size_le _ ?_) | (with_reducible refine size_alloc_le ?_) | (with_reducible refine size_set_le ?_) | (with_reducible refine size_drewN_le ?_) | go_size))⟩
    · have e : lfN p k n = 0 ∧ lfD p k n = 0 ∧ lfE p k n = 7 := by simp [lfN, lfD, lfE, hT, hn]
      rw [e.1, e.2.1, e.2.2]
      have HV := Lib.hid (fun w => validTackle_b p k true (by simp [hT]) w)
      have HL := Lib.hid (fun w => validLoad_any n false (by simp [hn]) w)
      clear hT hn e
      go_enter Tryd.func57, Tryd.ntmps57
      go_wp2_with fail
      refine calls_after (HV.out _) ?_
      intro x1
      have hz_x1 := x1.out.size; (try simp only [World.size_alloc] at hz_x1); (try simp only [World.size_setCell] at hz_x1); (try simp only [World.size_alloc] at hz_x1); have k0_x1 : w.heap.size < x1.w.heap.size := (by omega); have j0_x1 : w.heap.size < x1.w.heap.size + 1 := (by omega); have k1_x1 : w.heap.size + 1 < x1.w.heap.size := (by omega); have j1_x1 : w.heap.size + 1 < x1.w.heap.size + 1 := (by omega)
      go_wp2_with (go_at_call 59; refine (HL.out _).mono ?_; rintro e w1 ⟨rfl, rfl⟩)
      go_returns
      exact ⟨rfl, by (repeat' (first | (with_reducible exact Below.refl _ _) | (with_reducible assumption) | (with_reducible refine Below.alloc ?_ ?_ _) | (with_reducible refine Below.drew ?_) | (with_reducible refine below_drewN ?_ _) | (with_reducible refine Below.setCell ?_ ?_ _) | (with_reducible refine below_after ?_ ?_ _) | (with_reducible refine below_set ?_) | (with_reducible refine After.size_le _ ?_) | (with_reducible refine size_alloc_le ?_) | (with_reducible refine size_set_le ?_) | (with_reducible refine size_drewN_le ?_) | go_size))⟩
  · have e : lfN p k n = 0 ∧ lfD p k n = 0 ∧ lfE p k n = 1 := by simp [lfN, lfD, lfE, hT]
    rw [e.1, e.2.1, e.2.2]
    have HV := Lib.hid (fun w => validTackle_b p k false (by simp [hT]) w)
    clear hT e
    go_enter Tryd.func57, Tryd.ntmps57
    go_wp2_with fail
    refine calls_after (HV.out _) ?_
    intro x1
    have hz_x1 := x1.out.size; (try simp only [World.size_alloc] at hz_x1); (try simp only [World.size_setCell] at hz_x1); (try simp only [World.size_alloc] at hz_x1); have k0_x1 : w.heap.size < x1.w.heap.size := (by omega); have j0_x1 : w.heap.size < x1.w.heap.size + 1 := (by omega); have k1_x1 : w.heap.size + 1 < x1.w.heap.size := (by omega); have j1_x1 : w.heap.size + 1 < x1.w.heap.size + 1 := (by omega)
    go_wp2
    go_returns
    exact ⟨rfl, by (repeat' (first | (with_reducible exact Below.refl _ _) | (with_reducible assumption) | (with_reducible refine Below.alloc ?_ ?_ _) | (with_reducible refine Below.drew ?_) | (with_reducible refine below_drewN ?_ _) | (with_reducible refine Below.setCell ?_ ?_ _) | (with_reducible refine below_after ?_ ?_ _) | (with_reducible refine below_set ?_) | (with_reducible refine After.size_le _ ?_) | (with_reducible refine size_alloc_le ?_) | (with_reducible refine size_set_le ?_) | (with_reducible refine size_drewN_le ?_) | go_size))⟩

set_option maxRecDepth 100000 in
set_option maxHeartbeats 400000 in
theorem gainR_any (p k : Int) (w : World) :
    Calls Tryd.prog 30 #[.agg #[.int .i64 p, .int .i64 k]] w fun e w' => e = .returned (.tuple #[.agg #[.int .i64 (lfN p k 1), .int .i64 (lfD p k 1)], .int .i64 (lfE p k 1)]) ∧ Below w.heap.size w w' := by
  have HL := Lib.hid (fun w => lifted_any p k 1 w)
  generalize lfN p k 1 = N at *
  generalize lfD p k 1 = D at *
  generalize lfE p k 1 = E at *
  go_enter Tryd.func30, Tryd.ntmps30
  go_wp2_with fail
  refine calls_after (HL.out _) ?_
  intro x1
  have hz_x1 := x1.out.size; (try simp only [World.size_alloc] at hz_x1); (try simp only [World.size_setCell] at hz_x1); (try simp only [World.size_alloc] at hz_x1); have k0_x1 : w.heap.size < x1.w.heap.size := (by omega); have j0_x1 : w.heap.size < x1.w.heap.size + 1 := (by omega); have k1_x1 : w.heap.size + 1 < x1.w.heap.size := (by omega); have j1_x1 : w.heap.size + 1 < x1.w.heap.size + 1 := (by omega)
  go_wp2
  go_returns
  exact ⟨rfl, by (repeat' (first | (with_reducible exact Below.refl _ _) | (with_reducible assumption) | (with_reducible refine Below.alloc ?_ ?_ _) | (with_reducible refine Below.drew ?_) | (with_reducible refine below_drewN ?_ _) | (with_reducible refine Below.setCell ?_ ?_ _) | (with_reducible refine below_after ?_ ?_ _) | (with_reducible refine below_set ?_) | (with_reducible refine After.size_le _ ?_) | (with_reducible refine size_alloc_le ?_) | (with_reducible refine size_set_le ?_) | (with_reducible refine size_drewN_le ?_) | go_size))⟩

/-! ### Pull, Hauled -/
def puN (p k n : Int) : Int := if GoodT p k ∧ Ld n then plN p k n else 0
set_option maxRecDepth 100000 in
set_option maxHeartbeats 400000 in
theorem pull_any (p k n : Int) (w : World) :
    Calls Tryd.prog 31 #[.agg #[.int .i64 p, .int .i64 k], .int .i64 n] w fun e w' => e = .returned (.tuple #[.int .i64 (puN p k n), .int .i64 (lfE p k n)]) ∧ Below w.heap.size w w' := by
  by_cases hT : GoodT p k
  · have HV := Lib.hid (fun w => validTackle_b p k true (by simp [hT]) w)
    by_cases hn : Ld n
    · have e : puN p k n = plN p k n ∧ lfE p k n = 0 := by simp [puN, lfE, hT, hn]
      rw [e.1, e.2]
      have HL := Lib.hid (fun w => validLoad_any n true (by simp [hn]) w)
      have HG := Lib.hid (fun w => leastPull_any p k n w hT hn)
      generalize plN p k n = g at *
      clear hT e hn
      go_enter Tryd.func31, Tryd.ntmps31
      go_wp2_with fail
      refine calls_after (HV.out _) ?_
      intro x1
      have hz_x1 := x1.out.size; (try simp only [World.size_alloc] at hz_x1); (try simp only [World.size_setCell] at hz_x1); (try simp only [World.size_alloc] at hz_x1); have k0_x1 : w.heap.size < x1.w.heap.size := (by omega); have j0_x1 : w.heap.size < x1.w.heap.size + 1 := (by omega)
      go_wp2_with (go_at_call 59; refine (HL.out _).mono ?_; rintro e w1 ⟨rfl, rfl⟩)
      refine calls_after2 (HG.out _) ?_
      intro x2
      go_wp2
      go_returns
      exact ⟨rfl, by (repeat' (first | (with_reducible exact Below.refl _ _) | (with_reducible assumption) | (with_reducible refine Below.alloc ?_ ?_ _) | (with_reducible refine Below.drew ?_) | (with_reducible refine below_drewN ?_ _) | (with_reducible refine Below.setCell ?_ ?_ _) | (with_reducible refine below_after ?_ ?_ _) | (with_reducible refine below_set ?_) | (with_reducible refine After.size_le _ ?_) | (with_reducible refine size_alloc_le ?_) | (with_reducible refine size_set_le ?_) | (with_reducible refine size_drewN_le ?_) | go_size))⟩
    · have e : puN p k n = 0 ∧ lfE p k n = 7 := by simp [puN, lfE, hT, hn]
      rw [e.1, e.2]
      have HL := Lib.hid (fun w => validLoad_any n false (by simp [hn]) w)
      clear hT hn e
      go_enter Tryd.func31, Tryd.ntmps31
      go_wp2_with fail
      refine calls_after (HV.out _) ?_
      intro x1
      go_wp2_with (go_at_call 59; refine (HL.out _).mono ?_; rintro e w1 ⟨rfl, rfl⟩)
      go_returns
      exact ⟨rfl, by (repeat' (first | (with_reducible exact Below.refl _ _) | (with_reducible assumption) | (with_reducible refine Below.alloc ?_ ?_ _) | (with_reducible refine Below.drew ?_) | (with_reducible refine below_drewN ?_ _) | (with_reducible refine Below.setCell ?_ ?_ _) | (with_reducible refine below_after ?_ ?_ _) | (with_reducible refine below_set ?_) | (with_reducible refine After.size_le _ ?_) | (with_reducible refine size_alloc_le ?_) | (with_reducible refine size_set_le ?_) | (with_reducible refine size_drewN_le ?_) | go_size))⟩
  · have HV := Lib.hid (fun w => validTackle_b p k false (by simp [hT]) w)
    have e : puN p k n = 0 ∧ lfE p k n = 1 := by simp [puN, lfE, hT]
    rw [e.1, e.2]
    clear hT e
    go_enter Tryd.func31, Tryd.ntmps31
    go_wp2_with fail
    refine calls_after (HV.out _) ?_
    intro x1
    go_wp2
    go_returns
    exact ⟨rfl, by (repeat' (first | (with_reducible exact Below.refl _ _) | (with_reducible assumption) | (with_reducible refine Below.alloc ?_ ?_ _) | (with_reducible refine Below.drew ?_) | (with_reducible refine below_drewN ?_ _) | (with_reducible refine Below.setCell ?_ ?_ _) | (with_reducible refine below_after ?_ ?_ _) | (with_reducible refine below_set ?_) | (with_reducible refine After.size_le _ ?_) | (with_reducible refine size_alloc_le ?_) | (with_reducible refine size_set_le ?_) | (with_reducible refine size_drewN_le ?_) | go_size))⟩

def huN (p k n : Int) : Int := if GoodT p k ∧ Btw n 0 200000 then p * n else 0
def huE (p k n : Int) : Int := if GoodT p k then if Btw n 0 200000 then 0 else 7 else 1
theorem haul_bd {p k n : Int} (h : GoodT p k) (hn : Btw n 0 200000) : 0 ≤ p * n ∧ p * n ≤ 1200000 := by
  obtain ⟨⟨h1, h2⟩, h3, h4⟩ := h
  obtain ⟨n1, n2⟩ := hn
  exact ⟨Int.mul_nonneg (by omega) n1, Int.le_trans (Int.mul_le_mul_of_nonneg_right h2 n1) (by omega)⟩
end Go.Proofs.YtccjfmhbmieigaaDoor.Ro
