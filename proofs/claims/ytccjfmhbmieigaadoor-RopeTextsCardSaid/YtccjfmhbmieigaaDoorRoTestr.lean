/- Structs that are compared as a whole; the laws' examples. -/
import Derived.Test.YtccjfmhbmieigaaDoorRoTackr
namespace Go.Proofs.YtccjfmhbmieigaaDoor.Ro
open Go.Proofs.YtccjfmhbmieigaaDoor
open Go.RowKit

def eq2 (a b a' b' : Int) : Bool := decide (a = a' ∧ b = b')
theorem eq2_self (a b : Int) : eq2 a b a b = true := by simp [eq2]
theorem eql_ratio (a b a' b' : Int) (w : World) : (binOp .eql 40 (.agg #[.int .i64 a, .int .i64 b]) (.agg #[.int .i64 a', .int .i64 b'])).run Tryd.prog w = .ok (.bool (eq2 a b a' b')) w := by
  rw [run_eql_struct]
  go_simp
  by_cases h1 : a = a' <;> by_cases h2 : b = b' <;> simp [h1, h2, eq2]
theorem neq_ratio (a b a' b' : Int) (w : World) : (binOp .neq 40 (.agg #[.int .i64 a, .int .i64 b]) (.agg #[.int .i64 a', .int .i64 b'])).run Tryd.prog w = .ok (.bool (!eq2 a b a' b')) w := by
  rw [run_neq_struct]
  go_simp
  by_cases h1 : a = a' <;> by_cases h2 : b = b' <;> simp [h1, h2, eq2]
attribute [local go_sem 10000] eql_ratio neq_ratio
attribute [local go_sem] After.cell After.frozen After.lt After.le After.ne After.ne' After.set_eq After.size_set After.lt_add eq2_self

theorem gT_90 : gT 3 90 = 27100000000 := by decide +kernel
theorem good_90 : GoodT 3 90 := by unfold GoodT Btw; omega
theorem lf_90 : lfN 3 90 1 = 271 ∧ lfD 3 90 1 = 100 ∧ lfE 3 90 1 = 0 := by
  have h1 : Ld 1 := by show _ ∧ _; omega
  unfold lfN lfD lfE
  simp only [good_90, h1, gT_90, and_self, if_true]
  exact ⟨by decide +kernel, by decide +kernel, trivial⟩
theorem pu_90 : puN 3 90 1000 = 370 ∧ lfE 3 90 1000 = 0 := by
  have h1 : Ld 1000 := by show _ ∧ _; omega
  unfold puN lfE plN
  simp only [good_90, h1, gT_90, and_self, if_true]
  exact ⟨by decide +kernel, trivial⟩

set_option maxRecDepth 100000 in
set_option maxHeartbeats 400000 in
theorem awake_any (w : World) :
    Calls Tryd.prog 11 #[] w fun e w' => e = .returned (.bool true) ∧ Below w.heap.size w w' := by
  have HG := Lib.hid (fun w => gainR_any 3 90 w)
  have HP := Lib.hid (fun w => pull_any 3 90 1000 w)
  rw [lf_90.1, lf_90.2.1, lf_90.2.2] at HG
  rw [pu_90.1, pu_90.2] at HP
  go_enter Tryd.func11, Tryd.ntmps11
  go_wp2_with fail
  refine calls_after (HG.out _) ?_
  intro x1
  go_wp2_with fail
  refine calls_after (HP.out _) ?_
  intro x2
  have hz_x2 := x2.out.size; (try simp only [World.size_alloc] at hz_x2); (try simp only [World.size_setCell] at hz_x2); (try simp only [World.size_alloc] at hz_x2); have k0_x2 : x1.w.heap.size < x2.w.heap.size := (by omega); have j0_x2 : x1.w.heap.size < x2.w.heap.size + 1 := (by omega)
  go_wp2
  go_ret
  exact ⟨rfl, by (repeat' (first | (with_reducible exact Below.refl _ _) | (with_reducible assumption) | (with_reducible refine Below.alloc ?_ ?_ _) | (with_reducible refine Below.drew ?_) | (with_reducible refine below_drewN ?_ _) | (with_reducible refine Below.setCell ?_ ?_ _) | (with_reducible refine below_after ?_ ?_ _) | (with_reducible refine below_set ?_) | (with_reducible refine After.size_le _ ?_) | (with_reducible refine size_alloc_le ?_) | (with_reducible refine size_set_le ?_) | (with_reducible refine size_drewN_le ?_) | go_size))⟩
end Go.Proofs.YtccjfmhbmieigaaDoor.Ro
