/- The first day on which a mark is far enough: the reference. -/
import Derived.Test.YtdhobjflfhijjaaReach
namespace Go.Proofs.Ytdhobjflfhijjaa
open Go.RowKit
attribute [local go_sem] After.cell After.frozen After.lt After.le After.ne After.ne' After.set_eq After.size_set After.lt_add

theorem gone_eq (a b f t k : Int) : a * (t - f) + (b - a) * (t + k - f) = goneV a b (t - f) k := by
  unfold goneV
  rw [show t + k - f = (t - f) + k by omega, Int.mul_add, Int.sub_mul b a (t - f)]
  omega

/-! ### The reference -/
set_option maxRecDepth 100000 in
set_option maxHeartbeats 1000000 in
theorem rreaches_mark (ah ae an bh be bn f t l : Int) (w : World) (h : ¬ (InMk ah ae an ∧ InMk bh be bn)) :
    Calls Try.prog 56 #[.agg #[.int .i64 ah, .int .i64 ae, .int .i64 an], .agg #[.int .i64 bh, .int .i64 be, .int .i64 bn], .int .i64 f, .int .i64 t, .int .i64 l] w fun e w' => e = .returned (.tuple #[.int .i64 0, .int .i64 1]) ∧ Below w.heap.size w w' := by
  by_cases ha : InMk ah ae an
  · have HA := Lib.hid (fun w => rvalidMark_t ah ae an w ha)
    have HB := Lib.hid (fun w => rvalidMark_f bh be bn w (fun hb => h ⟨ha, hb⟩))
    clear ha h
    go_enter Try.func56, Try.ntmps56
    (go_wp2_with fail); refine calls_after (HA.out _) ?_; intro x1; have hz_x1 := x1.out.size; (try simp only [World.size_alloc] at hz_x1); (try simp only [World.size_setCell] at hz_x1); have k0_x1 : w.heap.size < x1.w.heap.size := (by omega); have j0_x1 : w.heap.size < x1.w.heap.size + 1 := (by omega); have k1_x1 : w.heap.size + 1 < x1.w.heap.size := (by omega); have j1_x1 : w.heap.size + 1 < x1.w.heap.size + 1 := (by omega)
    (go_wp2_with fail); refine calls_after2 (HB.out _) ?_; intro x2
    go_wp2
    go_returns
    exact ⟨rfl, by (repeat' (first | (with_reducible exact Below.refl _ _) | (with_reducible assumption) | (with_reducible refine Below.alloc ?_ ?_ _) | (with_reducible refine Below.drew ?_) | (with_reducible refine below_drewN ?_ _) | (with_reducible refine Below.setCell ?_ ?_ _) | (with_reducible refine below_after ?_ ?_ _) | (with_reducible refine below_set ?_) | (with_reducible refine After.size_le _ ?_) | (with_reducible refine size_alloc_le ?_) | (with_reducible refine size_set_le ?_) | (with_reducible refine size_drewN_le ?_) | go_size))⟩
  · have HA := Lib.hid (fun w => rvalidMark_f ah ae an w ha)
    clear ha h
    go_enter Try.func56, Try.ntmps56
    (go_wp2_with fail); refine calls_after (HA.out _) ?_; intro x1
    go_wp2
    go_returns
    exact ⟨rfl, by (repeat' (first | (with_reducible exact Below.refl _ _) | (with_reducible assumption) | (with_reducible refine Below.alloc ?_ ?_ _) | (with_reducible refine Below.drew ?_) | (with_reducible refine below_drewN ?_ _) | (with_reducible refine Below.setCell ?_ ?_ _) | (with_reducible refine below_after ?_ ?_ _) | (with_reducible refine below_set ?_) | (with_reducible refine After.size_le _ ?_) | (with_reducible refine size_alloc_le ?_) | (with_reducible refine size_set_le ?_) | (with_reducible refine size_drewN_le ?_) | go_size))⟩

set_option maxRecDepth 100000 in
set_option maxHeartbeats 1000000 in
theorem rreaches_days (ah ae an bh be bn f t l : Int) (w : World) (ha : InMk ah ae an) (hb : InMk bh be bn) (h : ¬ InDays f t l) (hf : In64 f) (ht : In64 t) :
    Calls Try.prog 56 #[.agg #[.int .i64 ah, .int .i64 ae, .int .i64 an], .agg #[.int .i64 bh, .int .i64 be, .int .i64 bn], .int .i64 f, .int .i64 t, .int .i64 l] w fun e w' => e = .returned (.tuple #[.int .i64 0, .int .i64 7]) ∧ Below w.heap.size w w' := by
  have HA := Lib.hid (fun w => rvalidMark_t ah ae an w ha)
  have HB := Lib.hid (fun w => rvalidMark_t bh be bn w hb)
  clear ha hb
  unfold In64 at hf ht
  unfold InDays at h
  rcases (show f < 0 ∨ (0 ≤ f ∧ t ≤ f) ∨ (0 ≤ f ∧ f < t ∧ 100000 < t) ∨ (0 ≤ f ∧ f < t ∧ t ≤ 100000 ∧ l < 1) ∨ (0 ≤ f ∧ f < t ∧ t ≤ 100000 ∧ 1 ≤ l ∧ ¬ l ≤ 20000) by omega) with h1 | h1 | h1 | h1 | h1
  all_goals
    clear h
    try obtain ⟨h1, h2⟩ := h1
    try obtain ⟨h2, h3⟩ := h2
    try obtain ⟨h3, h4⟩ := h3
    try obtain ⟨h4, h5⟩ := h4
    try (have d6 : decide (l ≤ 20000) = false := by simp; omega)
    go_enter Try.func56, Try.ntmps56
    (go_wp2_with fail); refine calls_after (HA.out _) ?_; intro x1; have hz_x1 := x1.out.size; (try simp only [World.size_alloc] at hz_x1); (try simp only [World.size_setCell] at hz_x1); have k0_x1 : w.heap.size < x1.w.heap.size := (by omega); have j0_x1 : w.heap.size < x1.w.heap.size + 1 := (by omega); have k1_x1 : w.heap.size + 1 < x1.w.heap.size := (by omega); have j1_x1 : w.heap.size + 1 < x1.w.heap.size + 1 := (by omega)
    (go_wp2_with fail); refine calls_after2 (HB.out _) ?_; intro x2
    go_wp2
    go_returns
    exact ⟨rfl, by (repeat' (first | (with_reducible exact Below.refl _ _) | (with_reducible assumption) | (with_reducible refine Below.alloc ?_ ?_ _) | (with_reducible refine Below.drew ?_) | (with_reducible refine below_drewN ?_ _) | (with_reducible refine Below.setCell ?_ ?_ _) | (with_reducible refine below_after ?_ ?_ _) | (with_reducible refine below_set ?_) | (with_reducible refine After.size_le _ ?_) | (with_reducible refine size_alloc_le ?_) | (with_reducible refine size_set_le ?_) | (with_reducible refine size_drewN_le ?_) | go_size))⟩


set_option maxRecDepth 100000 in
set_option maxHeartbeats 1000000 in
theorem rreaches_ok (ah ae an bh be bn f t l : Int) (w : World) (ha : InMk ah ae an) (hb : InMk bh be bn) (h : InDays f t l) :
    Calls Try.prog 56 #[.agg #[.int .i64 ah, .int .i64 ae, .int .i64 an], .agg #[.int .i64 bh, .int .i64 be, .int .i64 bn], .int .i64 f, .int .i64 t, .int .i64 l] w fun e w' => e = .returned (.tuple #[.int .i64 (dayV t (fstK (goneB ae an be bn (t - f) l) 40001)), .int .i64 (dayE (fstK (goneB ae an be bn (t - f) l) 40001))]) ∧ Below w.heap.size w w' := by
  have HA := Lib.hid (fun w => rvalidMark_t ah ae an w ha)
  have HB := Lib.hid (fun w => rvalidMark_t bh be bn w hb)
  unfold InMk at ha hb
  unfold InDays at h
  obtain ⟨h1, h2, h3, h4, h5⟩ := h
  have hf2 : f ≤ 100000 := by omega
  have l1 := prod_bd (a := l) (b := t - f) (A := 20000) (B := 100000) (by omega) (by omega) (by omega) (by omega)
  have l0 : 0 ≤ l * (t - f) := Int.mul_nonneg (by omega) (by omega)
  simp only [Int.reduceMul, Int.reduceNeg] at l1
  obtain ⟨l1, l1'⟩ := l1
  have a1 := prod_bd (a := ae) (b := t - f) (A := 10000) (B := 100000) (by omega) (by omega) (by omega) (by omega)
  have a2 := prod_bd (a := an) (b := t - f) (A := 10000) (B := 100000) (by omega) (by omega) (by omega) (by omega)
  simp only [Int.reduceMul, Int.reduceNeg] at a1 a2
  obtain ⟨a1, a1'⟩ := a1
  obtain ⟨a2, a2'⟩ := a2
  generalize hX : fstK (goneB ae an be bn (t - f) l) 40001 = o
  have HX := Lib.hid hX
  clear hX
  go_enter Try.func56, Try.ntmps56
  (go_wp2_with fail); refine calls_after (HA.out _) ?_; intro x1; have hz_x1 := x1.out.size; (try simp only [World.size_alloc] at hz_x1); (try simp only [World.size_setCell] at hz_x1); have k0_x1 : w.heap.size < x1.w.heap.size := (by omega); have j0_x1 : w.heap.size < x1.w.heap.size + 1 := (by omega); have k1_x1 : w.heap.size + 1 < x1.w.heap.size := (by omega); have j1_x1 : w.heap.size + 1 < x1.w.heap.size + 1 := (by omega)
  (go_wp2_with fail); refine calls_after2 (HB.out _) ?_; intro x2; have hz_x2 := x2.out.size; (try simp only [World.size_alloc] at hz_x2); (try simp only [World.size_setCell] at hz_x2); have k0_x2 : w.heap.size < x2.w.heap.size := (by omega); have j0_x2 : w.heap.size < x2.w.heap.size + 1 := (by omega); have k1_x2 : w.heap.size + 1 < x2.w.heap.size := (by omega); have j1_x2 : w.heap.size + 1 < x2.w.heap.size + 1 := (by omega)
  clear HA HB
  go_wp2
  go_loop [13] (fun i => ∃ k : Nat, k ≤ 40001 ∧ i = .int .i64 (t + k) ∧ ∀ j, j < k → goneB ae an be bn (t - f) l j = false) (fun i => (t + 40001 - intOf i).toNat)
  case atStart => exact ⟨0, by omega, by go_num, fun j hj => absurd hj (by omega)⟩
  case round =>
    obtain ⟨k, hk, rfl, ho⟩ := hrel
    have HO := Lib.hid ho
    clear ho
    by_cases hlt : k < 40001
    · have hI : t + (k : Int) ≤ t + 40000 := by omega
      have hJ : (0 : Int) ≤ (k : Int) := by omega
      have hK : (k : Int) ≤ 40000 := by omega
      have HL := Lib.hid hlt
      clear hlt hk
      have c1 := prod_bd (a := be - ae) (b := t + k - f) (A := 20000) (B := 140000) (by omega) (by omega) (by omega) (by omega)
      have c2 := prod_bd (a := bn - an) (b := t + k - f) (A := 20000) (B := 140000) (by omega) (by omega) (by omega) (by omega)
      simp only [Int.reduceMul, Int.reduceNeg] at c1 c2
      obtain ⟨c1, c1'⟩ := c1
      obtain ⟨c2, c2'⟩ := c2
      have b1 := goneV_bd (a := ae) (b := be) (t := t - f) (k := k) (by omega) (by omega) (by omega) (by omega)
      have b2 := goneV_bd (a := an) (b := bn) (t := t - f) (k := k) (by omega) (by omega) (by omega) (by omega)
      have HY : Hid (∀ W, Calls Try.prog 100 #[.int .i64 (ae * (t - f) + (be - ae) * (t + k - f)), .int .i64 (an * (t - f) + (bn - an) * (t + k - f)), .int .i64 (l * (t - f))] W fun e w' => e = .returned (.bool (goneB ae an be bn (t - f) l k)) ∧ W = w') := fun W => by
        rw [gone_eq, gone_eq]
        exact beyond_any _ _ _ W (by omega) (by omega) (by omega)
      clear b1 b2
      cases hB : goneB ae an be bn (t - f) l k
      · have HF := Lib.hid hB
        rw [hB] at HY
        clear hB
        go_wp2_with (go_at_call 100; (with_reducible refine (HY.out _).mono ?_); rintro e w1 ⟨rfl, rfl⟩)
        go_round
        case rel => exact ⟨k + 1, by have := HL.out; omega, by go_num, fun j hj => by
          rcases Nat.lt_or_ge j k with hj' | hj'
          · exact HO.out j hj'
          · obtain rfl : j = k := by omega
            exact HF.out⟩
        case measure => simp [intOf]; omega
      · obtain rfl : o = some k := HX.out.symm.trans (fstK_some HL.out HO.out hB)
        rw [hB] at HY
        clear hB HL HX
        go_wp2_with (go_at_call 100; (with_reducible refine (HY.out _).mono ?_); rintro e w1 ⟨rfl, rfl⟩)
        go_returns
        exact ⟨rfl, by (repeat' (first | (with_reducible exact Below.refl _ _) | (with_reducible assumption) | (with_reducible refine Below.alloc ?_ ?_ _) | (with_reducible refine Below.drew ?_) | (with_reducible refine below_drewN ?_ _) | (with_reducible refine Below.setCell ?_ ?_ _) | (with_reducible refine below_after ?_ ?_ _) | (with_reducible refine below_set ?_) | (with_reducible refine After.size_le _ ?_) | (with_reducible refine size_alloc_le ?_) | (with_reducible refine size_set_le ?_) | (with_reducible refine size_drewN_le ?_) | go_size))⟩
    · have hk2 : k = 40001 := by omega
      have hI : ¬ t + (k : Int) ≤ t + 40000 := by omega
      have hJ : (0 : Int) ≤ (k : Int) := by omega
      have hK : (k : Int) ≤ 40001 := by omega
      have HK := Lib.hid hk2
      clear hk2 hk hlt
      obtain rfl : o = none := HX.out.symm.trans (fstK_none (by rw [← HK.out]; exact HO.out))
      clear HX HK
      go_wp2
      go_returns
      exact ⟨rfl, by (repeat' (first | (with_reducible exact Below.refl _ _) | (with_reducible assumption) | (with_reducible refine Below.alloc ?_ ?_ _) | (with_reducible refine Below.drew ?_) | (with_reducible refine below_drewN ?_ _) | (with_reducible refine Below.setCell ?_ ?_ _) | (with_reducible refine below_after ?_ ?_ _) | (with_reducible refine below_set ?_) | (with_reducible refine After.size_le _ ?_) | (with_reducible refine size_alloc_le ?_) | (with_reducible refine size_set_le ?_) | (with_reducible refine size_drewN_le ?_) | go_size))⟩
end Go.Proofs.Ytdhobjflfhijjaa
