/- Comparing fractions exactly. -/
import Derived.Test.YtldopcneellfbaaGreatDoorAwTests
import Derived.Test.YtldopcneellfbaaGreatDoorAwMul
import Derived.Handy
namespace Go.Proofs.YtldopcneellfbaaGreatDoor.Aw
open Go.Proofs.YtldopcneellfbaaGreatDoor
open Go.RowKit
attribute [local go_sem] After.cell After.frozen After.lt After.le After.ne After.ne' After.set_eq After.size_set After.lt_add

def sgn (n : Int) : Int := if n < 0 then -1 else if n = 0 then 0 else 1
def cmp3 (a b : Int) : Int := if a < b then -1 else if b < a then 1 else 0


theorem cmpI64_any (x y : Int) (w : World) :
    Calls Tryz.prog 50 #[.int .i64 x, .int .i64 y] w fun e w' => e = .returned (.int .i64 (cmp3 x y)) ∧ ∃ n, w' = w.drewN n := by
  go_enter Tryz.func50, Tryz.ntmps50
  go_wp2
  all_goals
    go_ret
    exact ⟨ret_int (by unfold cmp3; omega), 0, rfl⟩
theorem cmpU64_any (x y : Int) (w : World) :
    Calls Tryz.prog 51 #[.int .u64 x, .int .u64 y] w fun e w' => e = .returned (.int .i64 (cmp3 x y)) ∧ ∃ n, w' = w.drewN n := by
  go_enter Tryz.func51, Tryz.ntmps51
  go_wp2
  all_goals
    go_ret
    exact ⟨ret_int (by unfold cmp3; omega), 0, rfl⟩
/-! ### Products of 64-bit numbers, as 128 bits -/
def toU (n : Int) : Nat := (n % 18446744073709551616).toNat
theorem wrapU (n : Int) : IntKind.u64.wrap n = (toU n : Int) := by
  rw [IntKind.wrap_u64]; unfold toU; omega
theorem toU_lt (n : Int) : toU n < 18446744073709551616 := by unfold toU; omega
def hiU (x y : Nat) : Nat := x * y / 18446744073709551616
def loU (x y : Nat) : Nat := x * y % 18446744073709551616
theorem mul64_hl (x y : Int) (w : World) :
    Calls Tryz.prog 63 #[.int .u64 (toU x), .int .u64 (toU y)] w fun e w' => e = .returned (.tuple #[.int .u64 (hiU (toU x) (toU y) : Nat), .int .u64 (loU (toU x) (toU y) : Nat)]) ∧ w = w' :=
  (mul64_any _ _ (toU_lt x) (toU_lt y) w).mono fun _ _ ⟨h1, h2⟩ => ⟨h1, h2.symm⟩
/-- The upper and the lower half of a product. -/
def proH (n d : Int) : Int := n * d / 18446744073709551616
def proL (n d : Int) : Int := n * d % 18446744073709551616
def In64 (n : Int) : Prop := -9223372036854775808 ≤ n ∧ n ≤ 9223372036854775807

theorem toU_neg (n : Int) (h : In64 n) (hn : n < 0) : (toU n : Int) = n + 18446744073709551616 := by unfold In64 at h; unfold toU; omega
theorem toU_nonneg (n : Int) (h : In64 n) (hn : 0 ≤ n) : (toU n : Int) = n := by unfold In64 at h; unfold toU; omega
theorem pro_bd (n d : Int) (h : In64 n) (hd : In64 d) (hd0 : 0 ≤ d) : -9223372036854775808 ≤ proH n d ∧ proH n d ≤ 9223372036854775807 := by
  unfold In64 at h hd
  unfold proH
  have h1 : n * d ≤ 9223372036854775807 * 9223372036854775807 := by
    refine Int.le_trans (Int.mul_le_mul_of_nonneg_right h.2 hd0) ?_
    exact Int.mul_le_mul_of_nonneg_left hd.2 (by omega)
  have h2 : -9223372036854775808 * 9223372036854775807 ≤ n * d := by
    refine Int.le_trans ?_ (Int.mul_le_mul_of_nonneg_right h.1 hd0)
    exact Int.mul_le_mul_of_nonpos_left (by omega) hd.2
  generalize n * d = m at *
  omega
theorem hi_neg (n d : Int) (h : In64 n) (hn : n < 0) (hd : In64 d) (hd0 : 0 ≤ d) : wrap64 (IntKind.u64.wrap ((hiU (toU n) (toU d) : Nat) - (toU d : Int))) = proH n d := by
  have e1 : ((hiU (toU n) (toU d) : Nat) : Int) = proH n d + d := by
    unfold hiU proH
    rw [Int.natCast_ediv, Int.natCast_mul, toU_neg n h hn, toU_nonneg d hd hd0, Int.add_mul]
    show (n * d + 18446744073709551616 * d) / 18446744073709551616 = _
    generalize n * d = m
    omega
  have hb := pro_bd n d h hd hd0
  rw [e1, toU_nonneg d hd hd0, show proH n d + d - d = proH n d by omega]
  generalize proH n d = p at *
  rw [IntKind.wrap_u64]
  unfold wrap64
  omega
theorem hi_pos (n d : Int) (h : In64 n) (hn : 0 ≤ n) (hd : In64 d) (hd0 : 0 ≤ d) : wrap64 ((hiU (toU n) (toU d) : Nat) : Int) = proH n d := by
  have e1 : ((hiU (toU n) (toU d) : Nat) : Int) = proH n d := by
    unfold hiU proH
    rw [Int.natCast_ediv, Int.natCast_mul, toU_nonneg n h hn, toU_nonneg d hd hd0]
    rfl
  have hb := pro_bd n d h hd hd0
  rw [e1]
  generalize proH n d = p at *
  unfold wrap64
  omega
theorem lo_any (n d : Int) (h : In64 n) (hd : In64 d) (hd0 : 0 ≤ d) : ((loU (toU n) (toU d) : Nat) : Int) = proL n d := by
  unfold loU proL
  rw [Int.natCast_emod, Int.natCast_mul, toU_nonneg d hd hd0]
  by_cases hn : n < 0
  · rw [toU_neg n h hn, Int.add_mul]
    show (n * d + 18446744073709551616 * d) % 18446744073709551616 = _
    generalize n * d = m
    omega
  · rw [toU_nonneg n h (by omega)]
    rfl

theorem ret_two {k k' : IntKind} {a b a' b' : Int} (h : a = b) (h' : a' = b') : Ending.returned (.tuple #[.int k a, .int k' a']) = .returned (.tuple #[.int k b, .int k' b']) := by rw [h, h']

theorem times_any (n d : Int) (w : World) (h : In64 n) (hd : In64 d) (hd0 : 0 ≤ d) :
    Calls Tryz.prog 48 #[.int .i64 n, .int .i64 d] w fun e w' => e = .returned (.tuple #[.int .i64 (proH n d), .int .u64 (proL n d)]) ∧ w = w' := by
  have HE := Lib.hid (hi_neg n d h · hd hd0)
  have HP := Lib.hid (hi_pos n d h · hd hd0)
  have HL := Lib.hid (lo_any n d h hd hd0)
  have e1 := Lib.hid (wrapU n)
  have e2 := Lib.hid (wrapU d)
  clear h hd hd0
  by_cases hn : n < 0
  · go_enter Tryz.func48, Tryz.ntmps48
    go_wp2_with fail
    rw [e1.out, e2.out]
    refine (mul64_hl n d _).mono ?_
    rintro e w' ⟨rfl, rfl⟩
    go_wp2
    rw [e2.out]
    go_ret2
    exact ⟨ret_two (HE.out hn) HL.out, rfl⟩
  · go_enter Tryz.func48, Tryz.ntmps48
    go_wp2_with fail
    rw [e1.out, e2.out]
    refine (mul64_hl n d _).mono ?_
    rintro e w' ⟨rfl, rfl⟩
    go_wp2
    go_ret2
    exact ⟨ret_two (HP.out (by omega)) HL.out, rfl⟩

def orV (x y : Int) : Int := if x = 0 then y else x
theorem orV_ne {x y : Int} (h : (x != 0) = true) : orV x y = x := by unfold orV; rw [if_neg (by simpa using h)]
theorem orV_eq {x y : Int} (h : (x != 0) = false) : orV x y = y := by unfold orV; rw [if_pos (by simpa using h)]
theorem or_two (x y : Int) (b : Nat) (w : World) (h0 : w.cell? ⟨b, 0, none⟩ = some (.int .i64 x)) (h1 : w.cell? ⟨b, 1, none⟩ = some (.int .i64 y)) :
    Calls Tryz.prog 49 #[.slice (some ⟨b, 0, none⟩) 2 2] w fun e w' => e = .returned (.int .i64 (orV x y)) ∧ w = w' := by
  go_enter Tryz.func49, Tryz.ntmps49
  go_wp2
  go_rounds 3
  · have h := orV_ne (y := y) ‹(x != 0) = true›
    go_ret
    exact ⟨ret_int h.symm, rfl⟩
  · have h := orV_eq (y := y) ‹(x != 0) = false›
    have h' : (y != 0) = true := by assumption
    go_ret
    exact ⟨ret_int h.symm, rfl⟩
  · have h := orV_eq (y := y) ‹(x != 0) = false›
    have h' : y = 0 := by simpa using ‹(y != 0) = false›
    go_ret
    exact ⟨ret_int (by rw [h, h']), rfl⟩

theorem or_new (x y : Int) (t : TypeId) (w : World) :
    Calls Tryz.prog 49 #[.slice (some ⟨w.heap.size, 0, none⟩) 2 2] (w.alloc (.cells #[.int .i64 x, .int .i64 y] t)) fun e w' => e = .returned (.int .i64 (orV x y)) ∧ w.alloc (.cells #[.int .i64 x, .int .i64 y] t) = w' :=
  or_two x y _ _ (by simp [go_sem]) (by simp [go_sem])
/-- Which of two fractions is greater: the sign. -/
def cmpR (a b c d : Int) : Int := cmp3 (a * max d 1) (c * max b 1)
theorem cmpR_lex (a b c d : Int) : orV (cmp3 (proH a (max d 1)) (proH c (max b 1))) (cmp3 (proL a (max d 1)) (proL c (max b 1))) = cmpR a b c d := by
  unfold orV cmpR proH proL
  generalize a * max d 1 = m
  generalize c * max b 1 = n
  unfold cmp3
  omega

set_option maxRecDepth 100000 in
set_option maxHeartbeats 400000 in
theorem compare_any (a b c d : Int) (w : World) (ha : In64 a) (hb : In64 b) (hc : In64 c) (hd : In64 d) :
    Calls Tryz.prog 29 #[.agg #[.int .i64 a, .int .i64 b], .agg #[.int .i64 c, .int .i64 d]] w fun e w' => e = .returned (.int .i64 (cmpR a b c d)) ∧ Below w.heap.size w w' := by
  have HA := Lib.hid ha
  have HC := Lib.hid hc
  have m1 : In64 (max b 1) := by unfold In64 at *; omega
  have m2 : In64 (max d 1) := by unfold In64 at *; omega
  have m3 : 0 ≤ max b 1 := by omega
  have m4 : 0 ≤ max d 1 := by omega
  have LX := cmpR_lex a b c d
  clear ha hb hc hd
  by_cases hd1 : d < 1 <;> by_cases hb1 : b < 1
  · rw [show max d 1 = 1 by omega, show max b 1 = 1 by omega] at *
    have M := Lib.hid (And.intro (And.intro m1 m3) (And.intro m2 m4))
    have LX' := Lib.hid LX
    clear m1 m2 m3 m4 LX
    go_enter Tryz.func29, Tryz.ntmps29
    go_wp2_with (first | (go_at_call 48; refine (times_any _ _ _ (by first | exact HA.out | exact HC.out) (by first | exact M.out.1.1 | exact M.out.2.1) (by first | exact M.out.1.2 | exact M.out.2.2)).mono ?_; rintro e w1 ⟨rfl, rfl⟩) | (go_at_call 50; refine drewN_after (cmpI64_any _ _ _) ?_; intro x1) | (go_at_call 51; refine drewN_after2 (cmpU64_any _ _ _) ?_; intro x2) | (go_at_call 49; refine (or_new _ _ _ _).mono ?_; rintro e w3 ⟨rfl, rfl⟩))
    rw [LX'.out]
    go_ret
    exact ⟨rfl, by (repeat' (first | (with_reducible exact Below.refl _ _) | (with_reducible assumption) | (with_reducible refine Below.alloc ?_ ?_ _) | (with_reducible refine Below.drew ?_) | (with_reducible refine below_drewN ?_ _) | (with_reducible refine Below.setCell ?_ ?_ _) | (with_reducible refine below_after ?_ ?_ _) | (with_reducible refine below_set ?_) | (with_reducible refine After.size_le _ ?_) | (with_reducible refine size_alloc_le ?_) | (with_reducible refine size_set_le ?_) | (with_reducible refine size_drewN_le ?_) | go_size))⟩
  · rw [show max d 1 = 1 by omega, show max b 1 = b by omega] at *
    have M := Lib.hid (And.intro (And.intro m1 m3) (And.intro m2 m4))
    have LX' := Lib.hid LX
    clear m1 m2 m3 m4 LX
    go_enter Tryz.func29, Tryz.ntmps29
    go_wp2_with (first | (go_at_call 48; refine (times_any _ _ _ (by first | exact HA.out | exact HC.out) (by first | exact M.out.1.1 | exact M.out.2.1) (by first | exact M.out.1.2 | exact M.out.2.2)).mono ?_; rintro e w1 ⟨rfl, rfl⟩) | (go_at_call 50; refine drewN_after (cmpI64_any _ _ _) ?_; intro x1) | (go_at_call 51; refine drewN_after2 (cmpU64_any _ _ _) ?_; intro x2) | (go_at_call 49; refine (or_new _ _ _ _).mono ?_; rintro e w3 ⟨rfl, rfl⟩))
    rw [LX'.out]
    go_ret
    exact ⟨rfl, by (repeat' (first | (with_reducible exact Below.refl _ _) | (with_reducible assumption) | (with_reducible refine Below.alloc ?_ ?_ _) | (with_reducible refine Below.drew ?_) | (with_reducible refine below_drewN ?_ _) | (with_reducible refine Below.setCell ?_ ?_ _) | (with_reducible refine below_after ?_ ?_ _) | (with_reducible refine below_set ?_) | (with_reducible refine After.size_le _ ?_) | (with_reducible refine size_alloc_le ?_) | (with_reducible refine size_set_le ?_) | (with_reducible refine size_drewN_le ?_) | go_size))⟩
  · rw [show max d 1 = d by omega, show max b 1 = 1 by omega] at *
    have M := Lib.hid (And.intro (And.intro m1 m3) (And.intro m2 m4))
    have LX' := Lib.hid LX
    clear m1 m2 m3 m4 LX
    go_enter Tryz.func29, Tryz.ntmps29
    go_wp2_with (first | (go_at_call 48; refine (times_any _ _ _ (by first | exact HA.out | exact HC.out) (by first | exact M.out.1.1 | exact M.out.2.1) (by first | exact M.out.1.2 | exact M.out.2.2)).mono ?_; rintro e w1 ⟨rfl, rfl⟩) | (go_at_call 50; refine drewN_after (cmpI64_any _ _ _) ?_; intro x1) | (go_at_call 51; refine drewN_after2 (cmpU64_any _ _ _) ?_; intro x2) | (go_at_call 49; refine (or_new _ _ _ _).mono ?_; rintro e w3 ⟨rfl, rfl⟩))
    rw [LX'.out]
    go_ret
    exact ⟨rfl, by (repeat' (first | (with_reducible exact Below.refl _ _) | (with_reducible assumption) | (with_reducible refine Below.alloc ?_ ?_ _) | (with_reducible refine Below.drew ?_) | (with_reducible refine below_drewN ?_ _) | (with_reducible refine Below.setCell ?_ ?_ _) | (with_reducible refine below_after ?_ ?_ _) | (with_reducible refine below_set ?_) | (with_reducible refine After.size_le _ ?_) | (with_reducible refine size_alloc_le ?_) | (with_reducible refine size_set_le ?_) | (with_reducible refine size_drewN_le ?_) | go_size))⟩
  · rw [show max d 1 = d by omega, show max b 1 = b by omega] at *
    have M := Lib.hid (And.intro (And.intro m1 m3) (And.intro m2 m4))
    have LX' := Lib.hid LX
    clear m1 m2 m3 m4 LX
    go_enter Tryz.func29, Tryz.ntmps29
    go_wp2_with (first | (go_at_call 48; refine (times_any _ _ _ (by first | exact HA.out | exact HC.out) (by first | exact M.out.1.1 | exact M.out.2.1) (by first | exact M.out.1.2 | exact M.out.2.2)).mono ?_; rintro e w1 ⟨rfl, rfl⟩) | (go_at_call 50; refine drewN_after (cmpI64_any _ _ _) ?_; intro x1) | (go_at_call 51; refine drewN_after2 (cmpU64_any _ _ _) ?_; intro x2) | (go_at_call 49; refine (or_new _ _ _ _).mono ?_; rintro e w3 ⟨rfl, rfl⟩))
    rw [LX'.out]
    go_ret
    exact ⟨rfl, by (repeat' (first | (with_reducible exact Below.refl _ _) | (with_reducible assumption) | (with_reducible refine Below.alloc ?_ ?_ _) | (with_reducible refine Below.drew ?_) | (with_reducible refine below_drewN ?_ _) | (with_reducible refine Below.setCell ?_ ?_ _) | (with_reducible refine below_after ?_ ?_ _) | (with_reducible refine below_set ?_) | (with_reducible refine After.size_le _ ?_) | (with_reducible refine size_alloc_le ?_) | (with_reducible refine size_set_le ?_) | (with_reducible refine size_drewN_le ?_) | go_size))⟩
end Go.Proofs.YtldopcneellfbaaGreatDoor.Aw
