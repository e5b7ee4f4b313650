/- Contracts of the functions on lines and fractions, part 2. -/
import Derived.Test.YtldopcneellfbaaGreatDoorAwLine
namespace Go.Proofs.YtldopcneellfbaaGreatDoor.Aw
open Go.Proofs.YtldopcneellfbaaGreatDoor
open Go.RowKit
attribute [local go_sem 10000] eql_line neq_line eql_ratio neq_ratio eql_point neq_point eql_mark neq_mark
attribute [local go_sem] After.cell After.frozen After.lt After.le After.ne After.ne' After.set_eq After.size_set After.lt_add eq3_self eq2_self

def GoodLine (a b d : Int) : Prop := InBd a b d ∧ gcd3 a b d = 1
instance (a b d : Int) : Decidable (GoodLine a b d) := by unfold GoodLine; infer_instance

theorem tdiv_self_iff (d : Int) (g : Nat) (hd : 1 ≤ d) (hg : 1 ≤ g) : d.tdiv g = d ↔ g = 1 := by
  rw [Int.tdiv_eq_ediv_of_nonneg (by omega)]
  constructor
  · intro h
    by_cases h2 : 2 ≤ g
    · have h3 : d / (g : Int) < d := Int.ediv_lt_self_of_pos_of_ne_one (by omega) (by omega)
      omega
    · omega
  · rintro rfl; simp
theorem good_of_eq3 {a b d : Int} (h : InBd a b d) : eq3 (a.tdiv (gcd3 a b d)) (b.tdiv (gcd3 a b d)) (d.tdiv (gcd3 a b d)) a b d = decide (GoodLine a b d) := by
  have hd : 1 ≤ d := by unfold InBd at h; omega
  have hg := gcd3_pos (a := a) (b := b) hd
  have := tdiv_self_iff d (gcd3 a b d) hd hg
  unfold eq3 GoodLine
  by_cases h1 : gcd3 a b d = 1
  · simp [h1, h]
  · have : ¬ d.tdiv (gcd3 a b d) = d := fun e => h1 (this.1 e)
    simp [h1, this]
theorem inBounds_t (a b d : Int) (w : World) (h : InBd a b d) :
    Calls Tryz.prog 44 #[.agg #[.int .i64 a, .int .i64 b, .int .i64 d]] w fun e w' => e = .returned (.bool true) ∧ Below w.heap.size w w' :=
  (inBounds_any a b d w).mono fun _ _ ⟨h1, h2⟩ => ⟨by rw [h1]; simp [h], h2⟩
theorem inBounds_f (a b d : Int) (w : World) (h : ¬ InBd a b d) :
    Calls Tryz.prog 44 #[.agg #[.int .i64 a, .int .i64 b, .int .i64 d]] w fun e w' => e = .returned (.bool false) ∧ Below w.heap.size w w' :=
  (inBounds_any a b d w).mono fun _ _ ⟨h1, h2⟩ => ⟨by rw [h1]; simp [h], h2⟩

theorem gcd_bd {a b : Int} {n : Nat} (ha : a.natAbs ≤ n) (hb : b.natAbs ≤ n) : (Int.gcd a b : Int) ≤ 2 * n := by
  have := gcd_add a.natAbs b.natAbs
  unfold Int.gcd; omega

/-! ### Make -/
def mkA (a b d : Int) : Int := if InBd a b d then a.tdiv (gcd3 a b d) else 0
def mkB (a b d : Int) : Int := if InBd a b d then b.tdiv (gcd3 a b d) else 0
def mkD (a b d : Int) : Int := if InBd a b d then d.tdiv (gcd3 a b d) else 0
def mkE (a b d : Int) : Int := if InBd a b d then 0 else 7

set_option maxRecDepth 100000 in
set_option maxHeartbeats 400000 in
theorem make_any (a b d : Int) (w : World) :
    Calls Tryz.prog 23 #[.int .i64 a, .int .i64 b, .int .i64 d] w fun e w' => e = .returned (.tuple #[.agg #[.int .i64 (mkA a b d), .int .i64 (mkB a b d), .int .i64 (mkD a b d)], .int .i64 (mkE a b d)]) ∧ Below w.heap.size w w' := by
  by_cases hI : InBd a b d
  · have HI := Lib.hid hI
    have e : mkA a b d = a.tdiv (gcd3 a b d) ∧ mkB a b d = b.tdiv (gcd3 a b d) ∧ mkD a b d = d.tdiv (gcd3 a b d) ∧ mkE a b d = 0 := by simp [mkA, mkB, mkD, mkE, hI]
    rw [e.1, e.2.1, e.2.2.1, e.2.2.2]
    clear hI e
    go_enter Tryz.func23, Tryz.ntmps23
    go_wp2_with (first | (go_at_call 44; (with_reducible (first | refine calls_after2 (inBounds_t _ _ _ _ HI.out) ?_ | refine calls_after (inBounds_t _ _ _ _ HI.out) ?_)); intro x1) | (go_at_call 45; (with_reducible (first | refine calls_after2 (lowest_any _ _ _ _ HI.out) ?_ | refine calls_after (lowest_any _ _ _ _ HI.out) ?_)); intro x2))
    go_returns
    exact ⟨rfl, by (repeat' (first | (with_reducible exact Below.refl _ _) | (with_reducible assumption) | (with_reducible refine Below.alloc ?_ ?_ _) | (with_reducible refine Below.drew ?_) | (with_reducible refine below_drewN ?_ _) | (with_reducible refine Below.setCell ?_ ?_ _) | (with_reducible refine below_after ?_ ?_ _) | (with_reducible refine below_set ?_) | (with_reducible refine After.size_le _ ?_) | (with_reducible refine size_alloc_le ?_) | (with_reducible refine size_set_le ?_) | (with_reducible refine size_drewN_le ?_) | go_size))⟩
  · have HI := Lib.hid hI
    have e : mkA a b d = 0 ∧ mkB a b d = 0 ∧ mkD a b d = 0 ∧ mkE a b d = 7 := by simp [mkA, mkB, mkD, mkE, hI]
    rw [e.1, e.2.1, e.2.2.1, e.2.2.2]
    clear hI e
    go_enter Tryz.func23, Tryz.ntmps23
    go_wp2_with (first | (go_at_call 44; (with_reducible (first | refine calls_after2 (inBounds_f _ _ _ _ HI.out) ?_ | refine calls_after (inBounds_f _ _ _ _ HI.out) ?_)); intro x1))
    go_returns
    exact ⟨rfl, by (repeat' (first | (with_reducible exact Below.refl _ _) | (with_reducible assumption) | (with_reducible refine Below.alloc ?_ ?_ _) | (with_reducible refine Below.drew ?_) | (with_reducible refine below_drewN ?_ _) | (with_reducible refine Below.setCell ?_ ?_ _) | (with_reducible refine below_after ?_ ?_ _) | (with_reducible refine below_set ?_) | (with_reducible refine After.size_le _ ?_) | (with_reducible refine size_alloc_le ?_) | (with_reducible refine size_set_le ?_) | (with_reducible refine size_drewN_le ?_) | go_size))⟩

/-! ### Fractions in lowest terms -/
def ratN (n d : Int) : Int := n.tdiv (Int.gcd n d)
def ratD (n d : Int) : Int := d.tdiv (Int.gcd n d)

end Go.Proofs.YtldopcneellfbaaGreatDoor.Aw
