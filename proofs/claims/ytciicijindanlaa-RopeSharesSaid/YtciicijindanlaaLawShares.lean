/- RopeShares: the law's walk. -/
import Derived.Test.YtciicijindanlaaTestr
import Derived.Test.YtciicijindanlaaSharesb
namespace Go.Proofs.Ytciicijindanlaa
open Go.RowKit
attribute [local go_sem 10000] eql_ratio neq_ratio
attribute [local go_sem] After.cell After.frozen After.lt After.le After.ne After.ne' After.set_eq After.size_set After.lt_add eq2_self

set_option maxRecDepth 100000 in
set_option maxHeartbeats 1000000 in
theorem ropeShares_long (s : Int) (a : Option Addr) (n cap : Nat) (w : World) (h : 60 < n) :
    Calls Try.prog 6 #[.int .i64 s, .slice a n cap] w fun e w' => e = .returned (.bool true) ∧ Below w.heap.size w w' := by
  have d1 : decide ((60 : Int) < (n : Int)) = true := decide_eq_true (by omega)
  go_enter Try.func6, Try.ntmps6
  go_wp2_with fail
  refine calls_after (awake_any _) ?_
  intro x1
  go_wp2
  go_ret
  exact ⟨rfl, by (repeat' (first | (with_reducible exact Below.refl _ _) | (with_reducible assumption) | (with_reducible refine Below.alloc ?_ ?_ _) | (with_reducible refine Below.drew ?_) | (with_reducible refine below_drewN ?_ _) | (with_reducible refine Below.setCell ?_ ?_ _) | (with_reducible refine below_after ?_ ?_ _) | (with_reducible refine below_set ?_) | (with_reducible refine After.size_le _ ?_) | (with_reducible refine size_alloc_le ?_) | (with_reducible refine size_set_le ?_) | (with_reducible refine size_drewN_le ?_) | go_size))⟩
set_option maxRecDepth 100000 in
set_option maxHeartbeats 1000000 in
theorem ropeShares_any (s : Int) (v : Value) (ps : List (Int × Int)) (w : World) (h : Prs w w.heap.size v ps) :
    Calls Try.prog 6 #[.int .i64 s, v] w fun e w' => e = .returned (.bool true) ∧ Below w.heap.size w w' := by
  obtain ⟨a, cap, hv⟩ := prs_slice h
  by_cases hl : ps.length ≤ 60
  · have HS : Hid (∀ W, Below w.heap.size w W → _) := fun W hW => sharesR_any s v ps W (prs_on h hW)
    have HR : Hid (∀ W, Below w.heap.size w W → _) := fun W hW => rsharesR_any s v ps W (prs_on h hW)
    have HV : Hid (∀ W, Below w.heap.size w W → _) := fun W hW => validLoads_v s v ps W (prs_on h hW)
    have HW : Hid (∀ W, Below w.heap.size w W → _) := fun W hW => rvalidLoads_v s v ps W (prs_on h hW)
    have HM : Hid (∀ W, Below w.heap.size w W → _) := fun W hW => middle_any s v ps W (prs_on h hW)
    have HN : Hid (∀ W, Below w.heap.size w W → _) := fun W hW => rmiddle_any s v ps W (prs_on h hW)
    clear h
    subst hv
    generalize s1N s ps = aN at *
    generalize s1D s ps = aD at *
    generalize s2N s ps = bN at *
    generalize s2D s ps = bD at *
    generalize shE s ps = e1 at *
    generalize miN s ps = cN at *
    generalize miD s ps = cD at *
    generalize miE s ps = e2 at *
    generalize decide (GoodL s ps) = g at *
    generalize ps.length = n at *
    have d1 : decide ((60 : Int) < (n : Int)) = false := decide_eq_false (by omega)
    go_enter Try.func6, Try.ntmps6
    go_wp2_with fail
    refine calls_after (HS.out _ (by (repeat' (first | (with_reducible exact Below.refl _ _) | (with_reducible assumption) | (with_reducible refine Below.alloc ?_ ?_ _) | (with_reducible refine Below.drew ?_) | (with_reducible refine below_drewN ?_ _) | (with_reducible refine Below.setCell ?_ ?_ _) | (with_reducible refine below_after ?_ ?_ _) | (with_reducible refine below_set ?_) | (with_reducible refine After.size_le _ ?_) | (with_reducible refine size_alloc_le ?_) | (with_reducible refine size_set_le ?_) | (with_reducible refine size_drewN_le ?_) | go_size)))) ?_
    intro x1
    go_wp2_with fail
    refine calls_after (HR.out _ (by (repeat' (first | (with_reducible exact Below.refl _ _) | (with_reducible assumption) | (with_reducible refine Below.alloc ?_ ?_ _) | (with_reducible refine Below.drew ?_) | (with_reducible refine below_drewN ?_ _) | (with_reducible refine Below.setCell ?_ ?_ _) | (with_reducible refine below_after ?_ ?_ _) | (with_reducible refine below_set ?_) | (with_reducible refine After.size_le _ ?_) | (with_reducible refine size_alloc_le ?_) | (with_reducible refine size_set_le ?_) | (with_reducible refine size_drewN_le ?_) | go_size)))) ?_
    intro x2
    have hz_x2 := x2.out.size; (try simp only [World.size_alloc] at hz_x2); (try simp only [World.size_setCell] at hz_x2); (try simp only [World.size_alloc] at hz_x2); have k0_x2 : x1.w.heap.size < x2.w.heap.size := (by omega); have j0_x2 : x1.w.heap.size < x2.w.heap.size + 1 := (by omega); have k1_x2 : x1.w.heap.size + 1 < x2.w.heap.size := (by omega); have j1_x2 : x1.w.heap.size + 1 < x2.w.heap.size + 1 := (by omega)
    go_wp2_with fail
    refine calls_after (HV.out _ (by (repeat' (first | (with_reducible exact Below.refl _ _) | (with_reducible assumption) | (with_reducible refine Below.alloc ?_ ?_ _) | (with_reducible refine Below.drew ?_) | (with_reducible refine below_drewN ?_ _) | (with_reducible refine Below.setCell ?_ ?_ _) | (with_reducible refine below_after ?_ ?_ _) | (with_reducible refine below_set ?_) | (with_reducible refine After.size_le _ ?_) | (with_reducible refine size_alloc_le ?_) | (with_reducible refine size_set_le ?_) | (with_reducible refine size_drewN_le ?_) | go_size)))) ?_
    intro x3
    have hz_x3 := x3.out.size; (try simp only [World.size_alloc] at hz_x3); (try simp only [World.size_setCell] at hz_x3); (try simp only [World.size_alloc] at hz_x3); have k0_x3 : x1.w.heap.size < x3.w.heap.size := (by omega); have j0_x3 : x1.w.heap.size < x3.w.heap.size + 1 := (by omega); have k1_x3 : x1.w.heap.size + 1 < x3.w.heap.size := (by omega); have j1_x3 : x1.w.heap.size + 1 < x3.w.heap.size + 1 := (by omega); have k2_x3 : x2.w.heap.size < x3.w.heap.size := (by omega); have j2_x3 : x2.w.heap.size < x3.w.heap.size + 1 := (by omega); have k3_x3 : x2.w.heap.size + 1 < x3.w.heap.size := (by omega); have j3_x3 : x2.w.heap.size + 1 < x3.w.heap.size + 1 := (by omega)
    go_wp2_with fail
    refine calls_after2 (HW.out _ (by (repeat' (first | (with_reducible exact Below.refl _ _) | (with_reducible assumption) | (with_reducible refine Below.alloc ?_ ?_ _) | (with_reducible refine Below.drew ?_) | (with_reducible refine below_drewN ?_ _) | (with_reducible refine Below.setCell ?_ ?_ _) | (with_reducible refine below_after ?_ ?_ _) | (with_reducible refine below_set ?_) | (with_reducible refine After.size_le _ ?_) | (with_reducible refine size_alloc_le ?_) | (with_reducible refine size_set_le ?_) | (with_reducible refine size_drewN_le ?_) | go_size)))) ?_
    intro x4
    have hz_x4 := x4.out.size; (try simp only [World.size_alloc] at hz_x4); (try simp only [World.size_setCell] at hz_x4); (try simp only [World.size_alloc] at hz_x4); have k0_x4 : x1.w.heap.size < x4.w.heap.size := (by omega); have j0_x4 : x1.w.heap.size < x4.w.heap.size + 1 := (by omega); have k1_x4 : x1.w.heap.size + 1 < x4.w.heap.size := (by omega); have j1_x4 : x1.w.heap.size + 1 < x4.w.heap.size + 1 := (by omega); have k2_x4 : x2.w.heap.size < x4.w.heap.size := (by omega); have j2_x4 : x2.w.heap.size < x4.w.heap.size + 1 := (by omega); have k3_x4 : x2.w.heap.size + 1 < x4.w.heap.size := (by omega); have j3_x4 : x2.w.heap.size + 1 < x4.w.heap.size + 1 := (by omega)
    go_wp2_with fail
    refine calls_after2 (HM.out _ (by (repeat' (first | (with_reducible exact Below.refl _ _) | (with_reducible assumption) | (with_reducible refine Below.alloc ?_ ?_ _) | (with_reducible refine Below.drew ?_) | (with_reducible refine below_drewN ?_ _) | (with_reducible refine Below.setCell ?_ ?_ _) | (with_reducible refine below_after ?_ ?_ _) | (with_reducible refine below_set ?_) | (with_reducible refine After.size_le _ ?_) | (with_reducible refine size_alloc_le ?_) | (with_reducible refine size_set_le ?_) | (with_reducible refine size_drewN_le ?_) | go_size)))) ?_
    intro x5
    have hz_x5 := x5.out.size; (try simp only [World.size_alloc] at hz_x5); (try simp only [World.size_setCell] at hz_x5); (try simp only [World.size_alloc] at hz_x5); have k0_x5 : x1.w.heap.size < x5.w.heap.size := (by omega); have j0_x5 : x1.w.heap.size < x5.w.heap.size + 1 := (by omega); have k1_x5 : x1.w.heap.size + 1 < x5.w.heap.size := (by omega); have j1_x5 : x1.w.heap.size + 1 < x5.w.heap.size + 1 := (by omega); have k2_x5 : x2.w.heap.size < x5.w.heap.size := (by omega); have j2_x5 : x2.w.heap.size < x5.w.heap.size + 1 := (by omega); have k3_x5 : x2.w.heap.size + 1 < x5.w.heap.size := (by omega); have j3_x5 : x2.w.heap.size + 1 < x5.w.heap.size + 1 := (by omega)
    go_wp2_with fail
    refine calls_after2 (HN.out _ (by (repeat' (first | (with_reducible exact Below.refl _ _) | (with_reducible assumption) | (with_reducible refine Below.alloc ?_ ?_ _) | (with_reducible refine Below.drew ?_) | (with_reducible refine below_drewN ?_ _) | (with_reducible refine Below.setCell ?_ ?_ _) | (with_reducible refine below_after ?_ ?_ _) | (with_reducible refine below_set ?_) | (with_reducible refine After.size_le _ ?_) | (with_reducible refine size_alloc_le ?_) | (with_reducible refine size_set_le ?_) | (with_reducible refine size_drewN_le ?_) | go_size)))) ?_
    intro x6
    have hz_x6 := x6.out.size; (try simp only [World.size_alloc] at hz_x6); (try simp only [World.size_setCell] at hz_x6); (try simp only [World.size_alloc] at hz_x6); have k0_x6 : x1.w.heap.size < x6.w.heap.size := (by omega); have j0_x6 : x1.w.heap.size < x6.w.heap.size + 1 := (by omega); have k1_x6 : x1.w.heap.size + 1 < x6.w.heap.size := (by omega); have j1_x6 : x1.w.heap.size + 1 < x6.w.heap.size + 1 := (by omega); have k2_x6 : x2.w.heap.size < x6.w.heap.size := (by omega); have j2_x6 : x2.w.heap.size < x6.w.heap.size + 1 := (by omega); have k3_x6 : x2.w.heap.size + 1 < x6.w.heap.size := (by omega); have j3_x6 : x2.w.heap.size + 1 < x6.w.heap.size + 1 := (by omega)
    go_wp2_with fail
    refine calls_after2 (awake_any _) ?_
    intro x7
    go_wp2
    go_ret
    exact ⟨rfl, by (repeat' (first | (with_reducible exact Below.refl _ _) | (with_reducible assumption) | (with_reducible refine Below.alloc ?_ ?_ _) | (with_reducible refine Below.drew ?_) | (with_reducible refine below_drewN ?_ _) | (with_reducible refine Below.setCell ?_ ?_ _) | (with_reducible refine below_after ?_ ?_ _) | (with_reducible refine below_set ?_) | (with_reducible refine After.size_le _ ?_) | (with_reducible refine size_alloc_le ?_) | (with_reducible refine size_set_le ?_) | (with_reducible refine size_drewN_le ?_) | go_size))⟩
  · subst hv
    exact ropeShares_long s a _ cap w (by omega)
end Go.Proofs.Ytciicijindanlaa
