/- The reference's exact comparison of fractions. -/
import Derived.Test.YtnhkkboddoiinaaRN
import Derived.Test.YtnhkkboddoiinaaMul
namespace Go.Proofs.Ytnhkkboddoiinaa
open Go.RowKit
attribute [local go_sem] After.cell After.frozen After.lt After.le After.ne After.ne' After.set_eq After.size_set After.lt_add

def cmp3 (a b : Int) : Int := if a < b then -1 else if b < a then 1 else 0
def cmpR (a b c d : Int) : Int := cmp3 (a * max d 1) (c * max b 1)
/-! ### Products of 64-bit numbers, as 128 bits -/
def toU (n : Int) : Nat := (n % 18446744073709551616).toNat
theorem wrapU (n : Int) : IntKind.u64.wrap n = (toU n : Int) := by
  rw [IntKind.wrap_u64]; unfold toU; omega
theorem toU_lt (n : Int) : toU n < 18446744073709551616 := by unfold toU; omega
def hiU (x y : Nat) : Nat := x * y / 18446744073709551616
def loU (x y : Nat) : Nat := x * y % 18446744073709551616
theorem mul64_hl (x y : Int) (w : World) :
    Calls Try.prog 97 #[.int .u64 (toU x), .int .u64 (toU y)] w fun e w' => e = .returned (.tuple #[.int .u64 (hiU (toU x) (toU y) : Nat), .int .u64 (loU (toU x) (toU y) : Nat)]) ∧ w = w' :=
  (mul64_any _ _ (toU_lt x) (toU_lt y) w).mono fun _ _ ⟨h1, h2⟩ => ⟨h1, h2.symm⟩
/-- The upper and the lower half of a product. -/
def proH (n d : Int) : Int := n * d / 18446744073709551616
def proL (n d : Int) : Int := n * d % 18446744073709551616
def In64 (n : Int) : Prop := -9223372036854775808 ≤ n ∧ n ≤ 9223372036854775807

theorem toU_neg (n : Int) (h : In64 n) (hn : n < 0) : (toU n : Int) = n + 18446744073709551616 := by unfold In64 at h; unfold toU; omega
theorem toU_nonneg (n : Int) (h : In64 n) (hn : 0 ≤ n) : (toU n : Int) = n := by unfold In64 at h; unfold toU; omega
def sgP (a b : Int) : Int := if a = 0 ∨ b = 0 then 0 else if a < 0 ∧ 0 < b ∨ 0 < a ∧ b < 0 then -1 else 1
theorem sign_any (a b : Int) (w : World) :
    Calls Try.prog 96 #[.int .i64 a, .int .i64 b] w fun e w' => e = .returned (.int .i64 (sgP a b)) ∧ ∃ n, w' = w.drewN n := by
  by_cases ha : a = 0
  · subst ha
    go_enter Try.func96, Try.ntmps96
    go_wp2
    go_ret
    exact ⟨ret_int (by unfold sgP; simp), 0, rfl⟩
  · have ea : (a == 0) = false := by simpa using ha
    by_cases hb : b = 0
    · subst hb
      go_enter Try.func96, Try.ntmps96
      go_wp2
      go_ret
      exact ⟨ret_int (by unfold sgP; simp), 0, rfl⟩
    · have eb : (b == 0) = false := by simpa using hb
      by_cases h1 : a < 0 <;> by_cases h2 : b < 0
      · have d1 : decide (a < 0) = true := by simpa using h1
        have d2 : decide (b < 0) = true := by simpa using h2
        have HR : Hid (sgP a b = 1) := by show _ = _; unfold sgP; rw [if_neg (by omega), if_neg (by omega)]
        go_enter Try.func96, Try.ntmps96
        go_wp2
        go_ret
        exact ⟨ret_int HR.out.symm, 0, rfl⟩
      · have d1 : decide (a < 0) = true := by simpa using h1
        have d2 : decide (b < 0) = false := by simpa using h2
        have HR : Hid (sgP a b = -1) := by show _ = _; unfold sgP; rw [if_neg (by omega), if_pos (by omega)]
        go_enter Try.func96, Try.ntmps96
        go_wp2
        go_ret
        exact ⟨ret_int HR.out.symm, 0, rfl⟩
      · have d1 : decide (a < 0) = false := by simpa using h1
        have d2 : decide (b < 0) = true := by simpa using h2
        have HR : Hid (sgP a b = -1) := by show _ = _; unfold sgP; rw [if_neg (by omega), if_pos (by omega)]
        go_enter Try.func96, Try.ntmps96
        go_wp2
        go_ret
        exact ⟨ret_int HR.out.symm, 0, rfl⟩
      · have d1 : decide (a < 0) = false := by simpa using h1
        have d2 : decide (b < 0) = false := by simpa using h2
        have HR : Hid (sgP a b = 1) := by show _ = _; unfold sgP; rw [if_neg (by omega), if_neg (by omega)]
        go_enter Try.func96, Try.ntmps96
        go_wp2
        go_ret
        exact ⟨ret_int HR.out.symm, 0, rfl⟩

theorem size_any (n : Int) (w : World) (h : In64 n) :
    Calls Try.prog 98 #[.int .i64 n] w fun e w' => e = .returned (.int .u64 (n.natAbs : Nat)) ∧ w = w' := by
  have e1 := Lib.hid (wrapU n)
  by_cases hn : n < 0
  · have hw : Hid (IntKind.u64.wrap (-IntKind.u64.wrap n) = (n.natAbs : Nat)) := by
      rw [wrapU n, toU_neg n h hn, IntKind.wrap_u64]; unfold In64 at h; show _ = _; omega
    clear h
    go_enter Try.func98, Try.ntmps98
    go_wp2
    go_ret
    exact ⟨ret_int hw.out, rfl⟩
  · have hw : Hid (IntKind.u64.wrap n = (n.natAbs : Nat)) := by
      rw [wrapU n, toU_nonneg n h (by omega)]; show _ = _; omega
    clear h
    go_enter Try.func98, Try.ntmps98
    go_wp2
    go_ret
    exact ⟨ret_int hw.out, rfl⟩
/-- Products by their halves. -/
theorem hiU_lt {x y x' y' : Nat} (h : hiU x y < hiU x' y') : x * y < x' * y' := by unfold hiU at h; omega
theorem half_eq {x y x' y' : Nat} (h : hiU x y = hiU x' y') (h' : loU x y = loU x' y') : x * y = x' * y' := by unfold hiU at h; unfold loU at h'; omega
theorem half_lt {x y x' y' : Nat} (h : hiU x y = hiU x' y') (h' : loU x y < loU x' y') : x * y < x' * y' := by unfold hiU at h; unfold loU at h'; omega
theorem sgP_zero {a b : Int} (h : sgP a b = 0) : a * b = 0 := by
  unfold sgP at h
  by_cases h1 : a = 0 ∨ b = 0
  · rcases h1 with h1 | h1 <;> simp [h1]
  · rw [if_neg h1] at h
    split at h <;> omega
theorem sgP_pos {a b : Int} (h : sgP a b = 1) : 0 < a * b ∧ a * b = (a.natAbs * b.natAbs : Nat) := by
  unfold sgP at h
  by_cases h1 : a = 0 ∨ b = 0
  · rw [if_pos h1] at h; omega
  · rw [if_neg h1] at h
    by_cases h2 : a < 0 ∧ 0 < b ∨ 0 < a ∧ b < 0
    · rw [if_pos h2] at h; omega
    · have hp : 0 < a * b := by
        rcases (show 0 < a ∧ 0 < b ∨ a < 0 ∧ b < 0 by omega) with ⟨x, y⟩ | ⟨x, y⟩
        · exact Int.mul_pos x y
        · exact Int.mul_pos_of_neg_of_neg x y
      refine ⟨hp, ?_⟩
      rw [← Int.natAbs_mul]; omega
theorem sgP_neg {a b : Int} (h : sgP a b = -1) : a * b < 0 ∧ a * b = -(a.natAbs * b.natAbs : Nat) := by
  unfold sgP at h
  by_cases h1 : a = 0 ∨ b = 0
  · rw [if_pos h1] at h; omega
  · rw [if_neg h1] at h
    by_cases h2 : a < 0 ∧ 0 < b ∨ 0 < a ∧ b < 0
    · have hp : a * b < 0 := by
        rcases h2 with ⟨x, y⟩ | ⟨x, y⟩
        · exact Int.mul_neg_of_neg_of_pos x y
        · exact Int.mul_neg_of_pos_of_neg x y
      refine ⟨hp, ?_⟩
      rw [← Int.natAbs_mul]; omega
    · rw [if_neg h2] at h; omega
theorem sgP_cases (a b : Int) : sgP a b = 0 ∨ sgP a b = 1 ∨ sgP a b = -1 := by
  unfold sgP
  by_cases h1 : a = 0 ∨ b = 0
  · simp [h1]
  · rw [if_neg h1]
    split <;> simp
theorem mul64_nat (x y : Nat) (w : World) (hx : x ≤ 9223372036854775808) (hy : y ≤ 9223372036854775808) :
    Calls Try.prog 97 #[.int .u64 x, .int .u64 y] w fun e w' => e = .returned (.tuple #[.int .u64 (hiU x y : Nat), .int .u64 (loU x y : Nat)]) ∧ w = w' :=
  (mul64_any _ _ (by omega) (by omega) w).mono fun _ _ ⟨h1, h2⟩ => ⟨h1, h2.symm⟩
/-- What Products comes to: by the signs, then by the halves of the products without signs. -/
def proV (s t : Int) (h l k m : Nat) : Int := if s < t then -1 else if t < s then 1 else if h = k ∧ l = m then 0 else if h < k ∨ h = k ∧ l < m then -s else s
theorem proV_eq (a b c d : Int) : proV (sgP a b) (sgP c d) (hiU a.natAbs b.natAbs) (loU a.natAbs b.natAbs) (hiU c.natAbs d.natAbs) (loU c.natAbs d.natAbs) = cmp3 (a * b) (c * d) := by
  have h1 := @hiU_lt a.natAbs b.natAbs c.natAbs d.natAbs
  have h2 := @hiU_lt c.natAbs d.natAbs a.natAbs b.natAbs
  have h3 := @half_eq a.natAbs b.natAbs c.natAbs d.natAbs
  have h4 := @half_lt a.natAbs b.natAbs c.natAbs d.natAbs
  have h5 := @half_lt c.natAbs d.natAbs a.natAbs b.natAbs
  have a0 := @sgP_zero a b; have a1 := @sgP_pos a b; have a2 := @sgP_neg a b
  have c0 := @sgP_zero c d; have c1 := @sgP_pos c d; have c2 := @sgP_neg c d
  have sa := sgP_cases a b
  have sc := sgP_cases c d
  generalize sgP a b = s at *
  generalize sgP c d = t at *
  generalize a * b = m at *
  generalize c * d = n at *
  generalize a.natAbs * b.natAbs = M at *
  generalize c.natAbs * d.natAbs = N at *
  generalize hiU a.natAbs b.natAbs = x1 at *
  generalize loU a.natAbs b.natAbs = x2 at *
  generalize hiU c.natAbs d.natAbs = x3 at *
  generalize loU c.natAbs d.natAbs = x4 at *
  unfold proV cmp3
  rcases sa with rfl | rfl | rfl <;> rcases sc with rfl | rfl | rfl <;> simp at * <;> (try omega) <;> (repeat' split) <;> omega

set_option maxRecDepth 100000 in
set_option maxHeartbeats 400000 in
theorem products_any (a b c d : Int) (w : World) (ha : In64 a) (hb : In64 b) (hc : In64 c) (hd : In64 d) :
    Calls Try.prog 70 #[.int .i64 a, .int .i64 b, .int .i64 c, .int .i64 d] w fun e w' => e = .returned (.int .i64 (cmp3 (a * b) (c * d))) ∧ Below w.heap.size w w' := by
  have H := Lib.hid (And.intro (And.intro ha hb) (And.intro hc hd))
  have LB : Hid (a.natAbs ≤ 9223372036854775808 ∧ b.natAbs ≤ 9223372036854775808 ∧ c.natAbs ≤ 9223372036854775808 ∧ d.natAbs ≤ 9223372036854775808) := by
    show _ ∧ _; unfold In64 at *; omega
  rw [← proV_eq]
  have sa := sgP_cases a b
  have sc := sgP_cases c d
  clear ha hb hc hd
  have HA := Lib.hid (sign_any a b)
  have HC := Lib.hid (sign_any c d)
  have HX := Lib.hid (mul64_nat a.natAbs b.natAbs)
  have HY := Lib.hid (mul64_nat c.natAbs d.natAbs)
  generalize sgP a b = s at *
  generalize sgP c d = t at *
  generalize hiU a.natAbs b.natAbs = x1 at *
  generalize loU a.natAbs b.natAbs = x2 at *
  generalize hiU c.natAbs d.natAbs = x3 at *
  generalize loU c.natAbs d.natAbs = x4 at *
  go_enter Try.func70, Try.ntmps70
  go_wp2_with fail
  refine drewN_after (HA.out _) ?_; intro y1
  go_wp2_with fail
  refine drewN_after2 (HC.out _) ?_; intro y2
  clear HA HC
  go_wp2_with fail
  · have h1 : s < t := by assumption
    go_ret
    exact ⟨ret_int (by unfold proV; rw [if_pos h1]), by (repeat' (first | (with_reducible exact Below.refl _ _) | (with_reducible assumption) | (with_reducible refine Below.alloc ?_ ?_ _) | (with_reducible refine Below.drew ?_) | (with_reducible refine below_drewN ?_ _) | (with_reducible refine Below.setCell ?_ ?_ _) | (with_reducible refine below_after ?_ ?_ _) | (with_reducible refine below_set ?_) | (with_reducible refine After.size_le _ ?_) | (with_reducible refine size_alloc_le ?_) | (with_reducible refine size_set_le ?_) | (with_reducible refine size_drewN_le ?_) | go_size))⟩
  · have h1 : t ≤ s := by assumption
    have h2 : (s != t) = true := by assumption
    have h3 : s ≠ t := by simpa using h2
    go_ret
    exact ⟨ret_int (by unfold proV; rw [if_neg (by omega), if_pos (by omega)]), by (repeat' (first | (with_reducible exact Below.refl _ _) | (with_reducible assumption) | (with_reducible refine Below.alloc ?_ ?_ _) | (with_reducible refine Below.drew ?_) | (with_reducible refine below_drewN ?_ _) | (with_reducible refine Below.setCell ?_ ?_ _) | (with_reducible refine below_after ?_ ?_ _) | (with_reducible refine below_set ?_) | (with_reducible refine After.size_le _ ?_) | (with_reducible refine size_alloc_le ?_) | (with_reducible refine size_set_le ?_) | (with_reducible refine size_drewN_le ?_) | go_size))⟩
  · have h2 : (s != t) = false := by assumption
    have h3 : s = t := by simpa using h2
    subst h3
    clear h2
    have hs : Hid (∀ v, v = (if x1 = x3 ∧ x2 = x4 then 0 else if x1 < x3 ∨ x1 = x3 ∧ x2 < x4 then -s else s) → v = proV s s x1 x2 x3 x4) := fun v hv => by
      unfold proV; rw [if_neg (by omega), if_neg (by omega)]; exact hv
    go_wp2_with (first | (go_at_call 98; refine (size_any _ _ (by first | exact H.out.1.1 | exact H.out.1.2 | exact H.out.2.1 | exact H.out.2.2)).mono ?_; rintro e w1 ⟨rfl, rfl⟩) | (go_at_call 97; (first | (with_reducible refine (HX.out _ LB.out.1 LB.out.2.1).mono ?_) | (with_reducible refine (HY.out _ LB.out.2.2.1 LB.out.2.2.2).mono ?_)); rintro e w1 ⟨rfl, rfl⟩))
    · have e1 : (x1 : Int) = (x3 : Int) := by assumption
      have e2 : x2 = x4 := by
        have := ‹((x2 : Int) == (x4 : Int)) = true›
        simp at this; omega
      go_ret
      exact ⟨ret_int (hs.out _ (by rw [if_pos ⟨by omega, e2⟩])), by (repeat' (first | (with_reducible exact Below.refl _ _) | (with_reducible assumption) | (with_reducible refine Below.alloc ?_ ?_ _) | (with_reducible refine Below.drew ?_) | (with_reducible refine below_drewN ?_ _) | (with_reducible refine Below.setCell ?_ ?_ _) | (with_reducible refine below_after ?_ ?_ _) | (with_reducible refine below_set ?_) | (with_reducible refine After.size_le _ ?_) | (with_reducible refine size_alloc_le ?_) | (with_reducible refine size_set_le ?_) | (with_reducible refine size_drewN_le ?_) | go_size))⟩
    · have e1 : (x1 : Int) = (x3 : Int) := by assumption
      have e2 : x2 < x4 := by assumption
      go_ret
      exact ⟨ret_int (hs.out _ (by rw [if_neg (by omega), if_pos (by omega)])), by (repeat' (first | (with_reducible exact Below.refl _ _) | (with_reducible assumption) | (with_reducible refine Below.alloc ?_ ?_ _) | (with_reducible refine Below.drew ?_) | (with_reducible refine below_drewN ?_ _) | (with_reducible refine Below.setCell ?_ ?_ _) | (with_reducible refine below_after ?_ ?_ _) | (with_reducible refine below_set ?_) | (with_reducible refine After.size_le _ ?_) | (with_reducible refine size_alloc_le ?_) | (with_reducible refine size_set_le ?_) | (with_reducible refine size_drewN_le ?_) | go_size))⟩
    · have e1 : (x1 : Int) = (x3 : Int) := by assumption
      have e2 : ¬ x2 = x4 := by
        have := ‹((x2 : Int) == (x4 : Int)) = false›
        simp at this; omega
      have e3 : ¬ x2 < x4 := by assumption
      go_ret
      exact ⟨ret_int (hs.out _ (by rw [if_neg (by omega), if_neg (by omega)])), by (repeat' (first | (with_reducible exact Below.refl _ _) | (with_reducible assumption) | (with_reducible refine Below.alloc ?_ ?_ _) | (with_reducible refine Below.drew ?_) | (with_reducible refine below_drewN ?_ _) | (with_reducible refine Below.setCell ?_ ?_ _) | (with_reducible refine below_after ?_ ?_ _) | (with_reducible refine below_set ?_) | (with_reducible refine After.size_le _ ?_) | (with_reducible refine size_alloc_le ?_) | (with_reducible refine size_set_le ?_) | (with_reducible refine size_drewN_le ?_) | go_size))⟩
    · have e1 : ¬ (x1 : Int) = (x3 : Int) := by assumption
      have e2 : ¬ x1 < x3 := by assumption
      go_ret
      exact ⟨ret_int (hs.out _ (by rw [if_neg (by omega), if_neg (by omega)])), by (repeat' (first | (with_reducible exact Below.refl _ _) | (with_reducible assumption) | (with_reducible refine Below.alloc ?_ ?_ _) | (with_reducible refine Below.drew ?_) | (with_reducible refine below_drewN ?_ _) | (with_reducible refine Below.setCell ?_ ?_ _) | (with_reducible refine below_after ?_ ?_ _) | (with_reducible refine below_set ?_) | (with_reducible refine After.size_le _ ?_) | (with_reducible refine size_alloc_le ?_) | (with_reducible refine size_set_le ?_) | (with_reducible refine size_drewN_le ?_) | go_size))⟩
    · have e1 : ¬ (x1 : Int) = (x3 : Int) := by assumption
      have e2 : ¬ x3 ≤ x1 := by assumption
      go_ret
      exact ⟨ret_int (hs.out _ (by rw [if_neg (by omega), if_pos (by omega)])), by (repeat' (first | (with_reducible exact Below.refl _ _) | (with_reducible assumption) | (with_reducible refine Below.alloc ?_ ?_ _) | (with_reducible refine Below.drew ?_) | (with_reducible refine below_drewN ?_ _) | (with_reducible refine Below.setCell ?_ ?_ _) | (with_reducible refine below_after ?_ ?_ _) | (with_reducible refine below_set ?_) | (with_reducible refine After.size_le _ ?_) | (with_reducible refine size_alloc_le ?_) | (with_reducible refine size_set_le ?_) | (with_reducible refine size_drewN_le ?_) | go_size))⟩

set_option maxRecDepth 100000 in
set_option maxHeartbeats 400000 in
theorem rcompare_any (a b c d : Int) (w : World) (ha : In64 a) (hb : In64 b) (hc : In64 c) (hd : In64 d) :
    Calls Try.prog 28 #[.agg #[.int .i64 a, .int .i64 b], .agg #[.int .i64 c, .int .i64 d]] w fun e w' => e = .returned (.int .i64 (cmpR a b c d)) ∧ Below w.heap.size w w' := by
  have HA := Lib.hid ha
  have HC := Lib.hid hc
  have HB := Lib.hid hb
  have HD := Lib.hid hd
  have H1 : Hid (In64 1) := by show _ ∧ _; omega
  have e : cmpR a b c d = cmp3 (a * max d 1) (c * max b 1) := rfl
  rw [e]
  clear ha hb hc hd e
  by_cases hb1 : b ≤ 0 <;> by_cases hd1 : d ≤ 0
  · rw [show max d 1 = 1 by omega, show max b 1 = 1 by omega]
    (try simp only [Int.mul_one])
    go_enter Try.func28, Try.ntmps28
    go_wp2_with (go_at_call 70; refine calls_after (products_any _ _ _ _ _ (by first | exact HA.out) (by first | exact HD.out | exact H1.out) (by first | exact HC.out) (by first | exact HB.out | exact H1.out)) ?_; intro x1)
    go_ret
    exact ⟨rfl, by (repeat' (first | (with_reducible exact Below.refl _ _) | (with_reducible assumption) | (with_reducible refine Below.alloc ?_ ?_ _) | (with_reducible refine Below.drew ?_) | (with_reducible refine below_drewN ?_ _) | (with_reducible refine Below.setCell ?_ ?_ _) | (with_reducible refine below_after ?_ ?_ _) | (with_reducible refine below_set ?_) | (with_reducible refine After.size_le _ ?_) | (with_reducible refine size_alloc_le ?_) | (with_reducible refine size_set_le ?_) | (with_reducible refine size_drewN_le ?_) | go_size))⟩
  · rw [show max d 1 = d by omega, show max b 1 = 1 by omega]
    (try simp only [Int.mul_one])
    go_enter Try.func28, Try.ntmps28
    go_wp2_with (go_at_call 70; refine calls_after (products_any _ _ _ _ _ (by first | exact HA.out) (by first | exact HD.out | exact H1.out) (by first | exact HC.out) (by first | exact HB.out | exact H1.out)) ?_; intro x1)
    go_ret
    exact ⟨rfl, by (repeat' (first | (with_reducible exact Below.refl _ _) | (with_reducible assumption) | (with_reducible refine Below.alloc ?_ ?_ _) | (with_reducible refine Below.drew ?_) | (with_reducible refine below_drewN ?_ _) | (with_reducible refine Below.setCell ?_ ?_ _) | (with_reducible refine below_after ?_ ?_ _) | (with_reducible refine below_set ?_) | (with_reducible refine After.size_le _ ?_) | (with_reducible refine size_alloc_le ?_) | (with_reducible refine size_set_le ?_) | (with_reducible refine size_drewN_le ?_) | go_size))⟩
  · rw [show max d 1 = 1 by omega, show max b 1 = b by omega]
    (try simp only [Int.mul_one])
    go_enter Try.func28, Try.ntmps28
    go_wp2_with (go_at_call 70; refine calls_after (products_any _ _ _ _ _ (by first | exact HA.out) (by first | exact HD.out | exact H1.out) (by first | exact HC.out) (by first | exact HB.out | exact H1.out)) ?_; intro x1)
    go_ret
    exact ⟨rfl, by (repeat' (first | (with_reducible exact Below.refl _ _) | (with_reducible assumption) | (with_reducible refine Below.alloc ?_ ?_ _) | (with_reducible refine Below.drew ?_) | (with_reducible refine below_drewN ?_ _) | (with_reducible refine Below.setCell ?_ ?_ _) | (with_reducible refine below_after ?_ ?_ _) | (with_reducible refine below_set ?_) | (with_reducible refine After.size_le _ ?_) | (with_reducible refine size_alloc_le ?_) | (with_reducible refine size_set_le ?_) | (with_reducible refine size_drewN_le ?_) | go_size))⟩
  · rw [show max d 1 = d by omega, show max b 1 = b by omega]
    (try simp only [Int.mul_one])
    go_enter Try.func28, Try.ntmps28
    go_wp2_with (go_at_call 70; refine calls_after (products_any _ _ _ _ _ (by first | exact HA.out) (by first | exact HD.out | exact H1.out) (by first | exact HC.out) (by first | exact HB.out | exact H1.out)) ?_; intro x1)
    go_ret
    exact ⟨rfl, by (repeat' (first | (with_reducible exact Below.refl _ _) | (with_reducible assumption) | (with_reducible refine Below.alloc ?_ ?_ _) | (with_reducible refine Below.drew ?_) | (with_reducible refine below_drewN ?_ _) | (with_reducible refine Below.setCell ?_ ?_ _) | (with_reducible refine below_after ?_ ?_ _) | (with_reducible refine below_set ?_) | (with_reducible refine After.size_le _ ?_) | (with_reducible refine size_alloc_le ?_) | (with_reducible refine size_set_le ?_) | (with_reducible refine size_drewN_le ?_) | go_size))⟩
end Go.Proofs.Ytnhkkboddoiinaa
