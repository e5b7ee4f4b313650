/- Whether x * x + y * y is at least z * z: the reference's exact comparison. -/
import Derived.Test.YtdhobjflfhijjaaAdd
import Derived.Test.YtdhobjflfhijjaaPtsv
namespace Go.Proofs.Ytdhobjflfhijjaa
open Go.RowKit
attribute [local go_sem] After.cell After.frozen After.lt After.le After.ne After.ne' After.set_eq After.size_set After.lt_add

set_option maxHeartbeats 1000000 in
theorem beyond_any (x y z : Int) (w : World) (hx : -2000000000 ≤ x ∧ x ≤ 2000000000) (hy : -2000000000 ≤ y ∧ y ≤ 2000000000) (hz : 0 ≤ z ∧ z ≤ 2000000000) :
    Calls Try.prog 100 #[.int .i64 x, .int .i64 y, .int .i64 z] w fun e w' => e = .returned (.bool (decide (z * z ≤ x * x + y * y))) ∧ w = w' := by
  have HS : Hid (∀ n, n = x ∨ n = y ∨ n = z → ∀ W, Calls Try.prog 111 #[.int .i64 n] W fun e w' => e = .returned (.int .u64 (n.natAbs : Nat)) ∧ W = w') := fun n hn W =>
    size_any n W (by unfold In64; rcases hn with rfl | rfl | rfl <;> omega)
  have X : Hid (x.natAbs ≤ 2000000000) := Lib.hid (by omega)
  have Y : Hid (y.natAbs ≤ 2000000000) := Lib.hid (by omega)
  have Z : Hid (z.natAbs ≤ 2000000000) := Lib.hid (by omega)
  have EX : Hid (((x.natAbs * x.natAbs : Nat) : Int) = x * x) := Lib.hid (Int.natAbs_mul_self)
  have EY : Hid (((y.natAbs * y.natAbs : Nat) : Int) = y * y) := Lib.hid (Int.natAbs_mul_self)
  have EZ : Hid (((z.natAbs * z.natAbs : Nat) : Int) = z * z) := Lib.hid (Int.natAbs_mul_self)
  have HM : Hid (∀ n : Nat, n ≤ 2000000000 → ∀ W, Calls Try.prog 110 #[.int .u64 n, .int .u64 n] W fun e w' => e = .returned (.tuple #[.int .u64 0, .int .u64 ((n * n : Nat) : Int)]) ∧ W = w') := fun n hn W => by
    have h2 : n * n ≤ 2000000000 * 2000000000 := Nat.mul_le_mul hn hn
    have := mul64_any n n (by omega) (by omega) W
    rw [show n * n / 18446744073709551616 = 0 by omega, show n * n % 18446744073709551616 = n * n by omega] at this
    exact this.mono fun _ _ ⟨h1, h2⟩ => ⟨h1, h2.symm⟩
  have SX : Hid (x.natAbs * x.natAbs ≤ 4000000000000000000) := Lib.hid (Nat.mul_le_mul X.out X.out)
  have SY : Hid (y.natAbs * y.natAbs ≤ 4000000000000000000) := Lib.hid (Nat.mul_le_mul Y.out Y.out)
  have SZ : Hid (z.natAbs * z.natAbs ≤ 4000000000000000000) := Lib.hid (Nat.mul_le_mul Z.out Z.out)
  have MX := Lib.hid (HM.out x.natAbs X.out)
  have MY := Lib.hid (HM.out y.natAbs Y.out)
  have MZ := Lib.hid (HM.out z.natAbs Z.out)
  have NX := Lib.hid (HS.out x (.inl rfl))
  have NY := Lib.hid (HS.out y (.inr (.inl rfl)))
  have NZ := Lib.hid (HS.out z (.inr (.inr rfl)))
  rw [← EX.out, ← EY.out, ← EZ.out]
  clear HS HM EX EY EZ X Y Z hx hy hz
  generalize x.natAbs * x.natAbs = xx at *
  generalize y.natAbs * y.natAbs = yy at *
  generalize z.natAbs * z.natAbs = zz at *
  have sx := SX.out
  have sy := SY.out
  have sz := SZ.out
  have HA := Lib.hid (fun W => add64_run xx yy (by omega) W)
  clear SX SY SZ
  go_enter Try.func100, Try.ntmps100
  go_wp2_with (first | (go_at_call 111; (first | (with_reducible refine (NX.out _).mono ?_) | (with_reducible refine (NY.out _).mono ?_) | (with_reducible refine (NZ.out _).mono ?_)); rintro e w1 ⟨rfl, rfl⟩) | (go_at_call 110; (first | (with_reducible refine (MX.out _).mono ?_) | (with_reducible refine (MY.out _).mono ?_) | (with_reducible refine (MZ.out _).mono ?_)); rintro e w1 ⟨rfl, rfl⟩) | (simp only [HA.out]))
  all_goals (go_ret; exact ⟨ret_dec (by rw [decide_eq_true_iff]), rfl⟩)
end Go.Proofs.Ytdhobjflfhijjaa
