/- Numbers of 128 bits in the program: products, and which of two is the lesser. -/
import Derived.Test.YtplhbklfaokjbaaDoorMul
import Derived.Test.YtplhbklfaokjbaaDoorAwk
namespace Go.Proofs.YtplhbklfaokjbaaDoor
open Go.RowKit
attribute [local go_sem] After.cell After.frozen After.lt After.le After.ne After.ne' After.set_eq After.size_set After.lt_add

theorem eql_wide (a b a' b' : Int) (w : World) : (binOp .eql 95 (.agg #[.int .u64 a, .int .u64 b]) (.agg #[.int .u64 a', .int .u64 b'])).run Tryd.prog w = .ok (.bool (eq2 a b a' b')) w := by
  rw [run_eql_struct]
  go_simp
  by_cases h1 : a = a' <;> by_cases h2 : b = b' <;> simp [h1, h2, eq2]
attribute [local go_sem 10000] eql_wide

set_option maxRecDepth 100000 in
theorem product_any (x y h l : Nat) (hx : x < 18446744073709551616) (hy : y < 18446744073709551616) (hh : x * y / 18446744073709551616 = h) (hl : x * y % 18446744073709551616 = l) (w : World) :
    Calls Tryd.prog 84 #[.int .u64 x, .int .u64 y] w fun e w' => e = .returned (.agg #[.int .u64 (h : Nat), .int .u64 (l : Nat)]) ∧ Below w.heap.size w w' := by
  have HM := Lib.hid (mul64_any x y hx hy)
  rw [hh, hl] at HM
  clear hh hl hx hy
  go_enter Tryd.func84, Tryd.ntmps84
  go_wp2_with fail
  refine (HM.out _).mono ?_
  rintro e w1 ⟨rfl, rfl⟩
  go_wp2
  go_returns
  exact ⟨rfl, by (repeat' (first | (with_reducible exact Below.refl _ _) | (with_reducible assumption) | (with_reducible refine Below.alloc ?_ ?_ _) | (with_reducible refine Below.drew ?_) | (with_reducible refine below_drewN ?_ _) | (with_reducible refine Below.setCell ?_ ?_ _) | (with_reducible refine below_after ?_ ?_ _) | (with_reducible refine below_set ?_) | (with_reducible refine After.size_le _ ?_) | (with_reducible refine size_alloc_le ?_) | (with_reducible refine size_set_le ?_) | (with_reducible refine size_drewN_le ?_) | go_size))⟩
set_option maxRecDepth 100000 in
set_option maxHeartbeats 2000000 in
theorem atMost_any (h l k m : Nat) (hl : l < 18446744073709551616) (hm : m < 18446744073709551616) (w : World) :
    Calls Tryd.prog 85 #[.agg #[.int .u64 (h : Nat), .int .u64 (l : Nat)], .agg #[.int .u64 (k : Nat), .int .u64 (m : Nat)]] w fun e w' => e = .returned (.bool (decide (h * 18446744073709551616 + l ≤ k * 18446744073709551616 + m))) ∧ Below w.heap.size w w' := by
  have key : decide (h * 18446744073709551616 + l ≤ k * 18446744073709551616 + m) = (eq2 (h : Int) l k m || decide (h < k) || (((h : Int) == (k : Int)) && decide (l < m))) := by
    have e : ((h : Int) == (k : Int)) = decide (h = k) := by
      by_cases h1 : h = k
      · subst h1; simp
      · rw [decide_eq_false h1]; exact beq_eq_false_iff_ne.2 (by omega)
    rw [e]
    unfold eq2
    rw [← Bool.decide_or, ← Bool.decide_and, ← Bool.decide_or]
    exact decide_eq_decide.2 (by omega)
  rw [key]
  clear key hl hm
  obtain ⟨b1, e1⟩ : ∃ b, eq2 (h : Int) l k m = b := ⟨_, rfl⟩
  obtain ⟨b2, e2⟩ : ∃ b, decide (h < k) = b := ⟨_, rfl⟩
  obtain ⟨b3, e3⟩ : ∃ b, ((h : Int) == (k : Int)) = b := ⟨_, rfl⟩
  obtain ⟨b4, e4⟩ : ∃ b, decide (l < m) = b := ⟨_, rfl⟩
  rw [e1, e2, e3, e4]
  cases b1 <;> cases b2 <;> cases b3 <;> cases b4
  all_goals
    go_enter Tryd.func85, Tryd.ntmps85
    go_wp2
    go_ret
    exact ⟨rfl, by (repeat' (first | (with_reducible exact Below.refl _ _) | (with_reducible assumption) | (with_reducible refine Below.alloc ?_ ?_ _) | (with_reducible refine Below.drew ?_) | (with_reducible refine below_drewN ?_ _) | (with_reducible refine Below.setCell ?_ ?_ _) | (with_reducible refine below_after ?_ ?_ _) | (with_reducible refine below_set ?_) | (with_reducible refine After.size_le _ ?_) | (with_reducible refine size_alloc_le ?_) | (with_reducible refine size_set_le ?_) | (with_reducible refine size_drewN_le ?_) | go_size))⟩
end Go.Proofs.YtplhbklfaokjbaaDoor
