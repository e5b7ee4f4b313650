/- RopeTackles: the law's walk. -/
import Derived.Test.YtciicijindanlaaTestr
namespace Go.Proofs.Ytciicijindanlaa
open Go.RowKit
attribute [local go_sem 10000] eql_ratio neq_ratio
attribute [local go_sem] After.cell After.frozen After.lt After.le After.ne After.ne' After.set_eq After.size_set After.lt_add eq2_self

set_option maxRecDepth 100000 in
set_option maxHeartbeats 1000000 in
theorem ropeTackles_any (p k n0 n1 n2 : Int) (w : World) :
    Calls Try.prog 3 #[.agg #[.int .i64 p, .int .i64 k], .agg #[.int .i64 n0, .int .i64 n1, .int .i64 n2]] w fun e w' => e = .returned (.bool true) ∧ Below w.heap.size w w' := by
  have HG := Lib.hid (fun w => gainR_any p k w)
  have HH := Lib.hid (fun w => rgainR_any p k w)
  generalize lfN p k 1 = gN at *
  generalize lfD p k 1 = gD at *
  generalize lfE p k 1 = gE at *
  have HV := Lib.hid (fun w => validTackle_any p k w)
  have HW := Lib.hid (fun w => rvalidTackle_any p k w)
  generalize decide (GoodT p k) = g at *
  have HL := Lib.hid (fun w => lifted_any p k n0 w)
  have HM := Lib.hid (fun w => rlifted_any p k n0 w)
  generalize lfN p k n0 = lN at *
  generalize lfD p k n0 = lD at *
  generalize lfE p k n0 = lE at *
  have HP := Lib.hid (fun w => pull_any p k n1 w)
  have HQ := Lib.hid (fun w => rpull_any p k n1 w)
  generalize puN p k n1 = uN at *
  generalize lfE p k n1 = uE at *
  have HX := Lib.hid (fun w => hauled_any p k n2 w)
  have HY := Lib.hid (fun w => rhauled_any p k n2 w)
  generalize huN p k n2 = hN at *
  generalize huE p k n2 = hE at *
  go_enter Try.func3, Try.ntmps3
  go_wp2_with fail
  refine calls_after (HG.out _) ?_
  intro x1
  have hz_x1 := x1.out.size; (try simp only [World.size_alloc] at hz_x1); (try simp only [World.size_setCell] at hz_x1); (try simp only [World.size_alloc] at hz_x1); have k0_x1 : w.heap.size < x1.w.heap.size := (by omega); have j0_x1 : w.heap.size < x1.w.heap.size + 1 := (by omega); have k1_x1 : w.heap.size + 1 < x1.w.heap.size := (by omega); have j1_x1 : w.heap.size + 1 < x1.w.heap.size + 1 := (by omega)
  go_wp2_with fail
  refine calls_after (HH.out _) ?_
  intro x2
  have hz_x2 := x2.out.size; (try simp only [World.size_alloc] at hz_x2); (try simp only [World.size_setCell] at hz_x2); (try simp only [World.size_alloc] at hz_x2); have k0_x2 : w.heap.size < x2.w.heap.size := (by omega); have j0_x2 : w.heap.size < x2.w.heap.size + 1 := (by omega); have k1_x2 : w.heap.size + 1 < x2.w.heap.size := (by omega); have j1_x2 : w.heap.size + 1 < x2.w.heap.size + 1 := (by omega); have k2_x2 : x1.w.heap.size < x2.w.heap.size := (by omega); have j2_x2 : x1.w.heap.size < x2.w.heap.size + 1 := (by omega)
  go_wp2_with fail
  refine wp_region_after (by kernel_rfl) (by kernel_rfl) ?_; (repeat (first | go_big_quiet_step ((first | (go_at_call 17; exact quiet_after (HV.out _)) | (go_at_call 18; exact quiet_after (HW.out _)))) | (refine wpQuiet_step (fun K hK => ?_); go_simp; first | (refine hK _ ?_; clear hK K) | (apply Exists.intro; refine ⟨fun x => ?_, hK _ ?_⟩; (first | (go_at_call 17; exact quiet_after (HV.out _)) | (go_at_call 18; exact quiet_after (HW.out _))); clear hK K)))); refine wpQuiet_nil ?_
  intro x3
  have hz_x3 := x3.out.size; (try simp only [World.size_alloc] at hz_x3); (try simp only [World.size_setCell] at hz_x3); (try simp only [World.size_alloc] at hz_x3); have k0_x3 : w.heap.size < x3.w.heap.size := (by omega); have j0_x3 : w.heap.size < x3.w.heap.size + 1 := (by omega); have k1_x3 : w.heap.size + 1 < x3.w.heap.size := (by omega); have j1_x3 : w.heap.size + 1 < x3.w.heap.size + 1 := (by omega); have k2_x3 : x1.w.heap.size < x3.w.heap.size := (by omega); have j2_x3 : x1.w.heap.size < x3.w.heap.size + 1 := (by omega); have k3_x3 : x2.w.heap.size < x3.w.heap.size := (by omega); have j3_x3 : x2.w.heap.size < x3.w.heap.size + 1 := (by omega)
  go_wp2_with fail
  refine calls_after2 (HL.out _) ?_
  intro x4
  have hz_x4 := x4.out.size; (try simp only [World.size_alloc] at hz_x4); (try simp only [World.size_setCell] at hz_x4); (try simp only [World.size_alloc] at hz_x4); have k0_x4 : w.heap.size < x4.w.heap.size := (by omega); have j0_x4 : w.heap.size < x4.w.heap.size + 1 := (by omega); have k1_x4 : w.heap.size + 1 < x4.w.heap.size := (by omega); have j1_x4 : w.heap.size + 1 < x4.w.heap.size + 1 := (by omega); have k2_x4 : x1.w.heap.size < x4.w.heap.size := (by omega); have j2_x4 : x1.w.heap.size < x4.w.heap.size + 1 := (by omega); have k3_x4 : x2.w.heap.size < x4.w.heap.size := (by omega); have j3_x4 : x2.w.heap.size < x4.w.heap.size + 1 := (by omega)
  go_wp2_with fail
  refine calls_after2 (HM.out _) ?_
  intro x5
  have hz_x5 := x5.out.size; (try simp only [World.size_alloc] at hz_x5); (try simp only [World.size_setCell] at hz_x5); (try simp only [World.size_alloc] at hz_x5); have k0_x5 : w.heap.size < x5.w.heap.size := (by omega); have j0_x5 : w.heap.size < x5.w.heap.size + 1 := (by omega); have k1_x5 : w.heap.size + 1 < x5.w.heap.size := (by omega); have j1_x5 : w.heap.size + 1 < x5.w.heap.size + 1 := (by omega); have k2_x5 : x1.w.heap.size < x5.w.heap.size := (by omega); have j2_x5 : x1.w.heap.size < x5.w.heap.size + 1 := (by omega); have k3_x5 : x2.w.heap.size < x5.w.heap.size := (by omega); have j3_x5 : x2.w.heap.size < x5.w.heap.size + 1 := (by omega)
  go_wp2_with fail
  refine calls_after2 (HP.out _) ?_
  intro x6
  have hz_x6 := x6.out.size; (try simp only [World.size_alloc] at hz_x6); (try simp only [World.size_setCell] at hz_x6); (try simp only [World.size_alloc] at hz_x6); have k0_x6 : w.heap.size < x6.w.heap.size := (by omega); have j0_x6 : w.heap.size < x6.w.heap.size + 1 := (by omega); have k1_x6 : w.heap.size + 1 < x6.w.heap.size := (by omega); have j1_x6 : w.heap.size + 1 < x6.w.heap.size + 1 := (by omega); have k2_x6 : x1.w.heap.size < x6.w.heap.size := (by omega); have j2_x6 : x1.w.heap.size < x6.w.heap.size + 1 := (by omega); have k3_x6 : x2.w.heap.size < x6.w.heap.size := (by omega); have j3_x6 : x2.w.heap.size < x6.w.heap.size + 1 := (by omega)
  go_wp2_with fail
  refine calls_after2 (HQ.out _) ?_
  intro x7
  have hz_x7 := x7.out.size; (try simp only [World.size_alloc] at hz_x7); (try simp only [World.size_setCell] at hz_x7); (try simp only [World.size_alloc] at hz_x7); have k0_x7 : w.heap.size < x7.w.heap.size := (by omega); have j0_x7 : w.heap.size < x7.w.heap.size + 1 := (by omega); have k1_x7 : w.heap.size + 1 < x7.w.heap.size := (by omega); have j1_x7 : w.heap.size + 1 < x7.w.heap.size + 1 := (by omega); have k2_x7 : x1.w.heap.size < x7.w.heap.size := (by omega); have j2_x7 : x1.w.heap.size < x7.w.heap.size + 1 := (by omega); have k3_x7 : x2.w.heap.size < x7.w.heap.size := (by omega); have j3_x7 : x2.w.heap.size < x7.w.heap.size + 1 := (by omega)
  go_wp2_with fail
  refine calls_after2 (HX.out _) ?_
  intro x8
  have hz_x8 := x8.out.size; (try simp only [World.size_alloc] at hz_x8); (try simp only [World.size_setCell] at hz_x8); (try simp only [World.size_alloc] at hz_x8); have k0_x8 : w.heap.size < x8.w.heap.size := (by omega); have j0_x8 : w.heap.size < x8.w.heap.size + 1 := (by omega); have k1_x8 : w.heap.size + 1 < x8.w.heap.size := (by omega); have j1_x8 : w.heap.size + 1 < x8.w.heap.size + 1 := (by omega); have k2_x8 : x1.w.heap.size < x8.w.heap.size := (by omega); have j2_x8 : x1.w.heap.size < x8.w.heap.size + 1 := (by omega); have k3_x8 : x2.w.heap.size < x8.w.heap.size := (by omega); have j3_x8 : x2.w.heap.size < x8.w.heap.size + 1 := (by omega)
  go_wp2_with fail
  refine calls_after2 (HY.out _) ?_
  intro x9
  go_wp2_with fail
  refine calls_after2 (awake_any _) ?_
  intro x10
  go_wp2
  go_ret
  exact ⟨rfl, by (repeat' (first | (with_reducible exact Below.refl _ _) | (with_reducible assumption) | (with_reducible refine Below.alloc ?_ ?_ _) | (with_reducible refine Below.drew ?_) | (with_reducible refine below_drewN ?_ _) | (with_reducible refine Below.setCell ?_ ?_ _) | (with_reducible refine below_after ?_ ?_ _) | (with_reducible refine below_set ?_) | (with_reducible refine After.size_le _ ?_) | (with_reducible refine size_alloc_le ?_) | (with_reducible refine size_set_le ?_) | (with_reducible refine size_drewN_le ?_) | go_size))⟩
end Go.Proofs.Ytciicijindanlaa
