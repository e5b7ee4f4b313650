/- Contracts of the functions on lines and fractions. -/
import Derived.Test.YtldopcneellfbaaGreatDoorAwTests
namespace Go.Proofs.YtldopcneellfbaaGreatDoor.Aw
open Go.Proofs.YtldopcneellfbaaGreatDoor
open Go.RowKit
attribute [local go_sem 10000] eql_line neq_line eql_ratio neq_ratio eql_point neq_point eql_mark neq_mark
attribute [local go_sem] After.cell After.frozen After.lt After.le After.ne After.ne' After.set_eq After.size_set After.lt_add

theorem abs_any (n : Int) (w : World) (h : -9000000000000000000 ≤ n) (h' : n ≤ 9000000000000000000) :
    Calls Tryz.prog 52 #[.int .i64 n] w fun e w' => e = .returned (.int .i64 (n.natAbs : Nat)) ∧ w = w' := by
  by_cases hn : n < 0
  · go_enter Tryz.func52, Tryz.ntmps52
    go_wp2
    go_ret
    exact ⟨ret_int (by omega), rfl⟩
  · go_enter Tryz.func52, Tryz.ntmps52
    go_wp2
    go_ret
    exact ⟨ret_int (by omega), rfl⟩

theorem gcd_add (p q : Nat) : Nat.gcd p q ≤ p + q := by
  rcases Nat.eq_zero_or_pos p with rfl | h
  · simp
  · have := Nat.gcd_le_left q h; omega
def gcd3 (a b d : Int) : Nat := Int.gcd (Int.gcd a b) d
theorem gcd3_pos {a b d : Int} (h : 1 ≤ d) : 1 ≤ gcd3 a b d := Int.gcd_pos_of_ne_zero_right _ (by omega)
theorem gcd3_le {a b d : Int} (h : 1 ≤ d) : (gcd3 a b d : Int) ≤ d := Int.gcd_le_right _ (by omega)

set_option maxRecDepth 100000 in
set_option maxHeartbeats 400000 in
theorem lowest_any (a b d : Int) (w : World) (hI : InBd a b d) :
    Calls Tryz.prog 45 #[.agg #[.int .i64 a, .int .i64 b, .int .i64 d]] w fun e w' => e = .returned (.agg #[.int .i64 (a.tdiv (gcd3 a b d)), .int .i64 (b.tdiv (gcd3 a b d)), .int .i64 (d.tdiv (gcd3 a b d))]) ∧ Below w.heap.size w w' := by
  have hg := gcd3_pos (a := a) (b := b) (d := d) (by unfold InBd at hI; omega)
  unfold InBd at hI
  obtain ⟨i1, i2, i3, i4, i5, i6⟩ := hI
  obtain ⟨n, rfl⟩ := Int.eq_ofNat_of_zero_le (show 0 ≤ d by omega)
  have HG : Hid (Nat.gcd (Nat.gcd a.natAbs b.natAbs) n = gcd3 a b n) := rfl
  generalize gcd3 a b n = g at *
  have hgb := gcd_add a.natAbs b.natAbs
  go_enter Tryz.func45, Tryz.ntmps45
  go_wp2
  go_quiet ((first | (go_at_call 52; exact Calls.quiet_of_same ((abs_any _ _ (by omega) (by omega)).mono fun _ _ ⟨h1, h2⟩ => ⟨h1, h2.symm⟩)) | (go_at_call 62; exact Calls.quiet_of (common_any _ _ _ (by omega) (by omega)))))
  rw [HG.out]
  clear HG hgb
  have hg' : (1 : Int) ≤ (g : Int) := by omega
  have hg0 : ((g : Int) == 0) = false := beq_eq_false_iff_ne.2 (by omega)
  have hq1 : (n : Int) / (g : Int) ≤ 1000000000000 := Int.le_trans (Int.ediv_le_self _ (by omega)) i6
  have hq0 : 0 ≤ (n : Int) / (g : Int) := Int.ediv_nonneg (by omega) (by omega)
  have he : Hid ((n : Int).tdiv (g : Int) = (n : Int) / (g : Int)) := Int.tdiv_eq_ediv_of_nonneg (by omega)
  go_wp2
  go_region
  go_wp2
  rw [he.out]
  go_returns
  exact ⟨rfl, by (repeat' (first | (with_reducible exact Below.refl _ _) | (with_reducible assumption) | (with_reducible refine Below.alloc ?_ ?_ _) | (with_reducible refine Below.drew ?_) | (with_reducible refine below_drewN ?_ _) | (with_reducible refine Below.setCell ?_ ?_ _) | (with_reducible refine below_after ?_ ?_ _) | (with_reducible refine below_set ?_) | (with_reducible refine After.size_le _ ?_) | (with_reducible refine size_alloc_le ?_) | (with_reducible refine size_set_le ?_) | (with_reducible refine size_drewN_le ?_) | go_size))⟩

end Go.Proofs.YtldopcneellfbaaGreatDoor.Aw
