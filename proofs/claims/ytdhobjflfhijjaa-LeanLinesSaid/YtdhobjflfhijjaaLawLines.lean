/- LeanLines: the law's walk. -/
import Derived.Test.YtdhobjflfhijjaaNearest
import Derived.Test.YtdhobjflfhijjaaDist
namespace Go.Proofs.Ytdhobjflfhijjaa
open Go.RowKit
attribute [local go_sem 10000] eql_line neq_line eql_ratio neq_ratio eql_point neq_point eql_mark neq_mark
attribute [local go_sem] After.cell After.frozen After.lt After.le After.ne After.ne' After.set_eq After.size_set After.lt_add eq3_self eq2_self

set_option maxRecDepth 100000 in
set_option maxHeartbeats 1000000 in
theorem leanLines_any (a b d h x n0 n1 n2 n3 : Int) (w : World) :
    Calls Try.prog 4 #[.agg #[.int .i64 a, .int .i64 b, .int .i64 d], .agg #[.int .i64 h, .int .i64 x], .agg #[.int .i64 n0, .int .i64 n1, .int .i64 n2, .int .i64 n3]] w fun e w' => e = .returned (.bool true) ∧ Below w.heap.size w w' := by
  have HM := Lib.hid (fun w => make_any n0 n1 n2 w)
  have HR := Lib.hid (fun w => rmake_any n0 n1 n2 w)
  generalize mkA n0 n1 n2 = mA at *
  generalize mkB n0 n1 n2 = mB at *
  generalize mkD n0 n1 n2 = mD at *
  generalize mkE n0 n1 n2 = mE at *
  have HV := Lib.hid (fun w => validLine_any a b d w)
  have HW := Lib.hid (fun w => rvalidLine_any a b d w)
  generalize decide (GoodLine a b d) = g at *
  have HA := Lib.hid (fun w => at_any a b d n3 w)
  have HB := Lib.hid (fun w => rat_any a b d n3 w)
  generalize atN a b d n3 = aN at *
  generalize atD a b d n3 = aD at *
  generalize atE a b d n3 = aE at *
  have HD := Lib.hid (fun w => distance_any a b d h x w)
  have HE := Lib.hid (fun w => rdistance_any a b d h x w)
  generalize disN a b d h x = dN at *
  generalize disD a b d h x = dD at *
  generalize disE a b d h x = dE at *
  go_enter Try.func4, Try.ntmps4
  go_wp2_with fail
  refine calls_after (HM.out _) ?_
  intro x1
  have hz_x1 := x1.out.size; (try simp only [World.size_alloc, World.size_setCell, After.size_set] at hz_x1); have k0_x1 : w.heap.size < x1.w.heap.size := (by omega); have k1_x1 : w.heap.size + 1 < x1.w.heap.size := (by omega); have k2_x1 : w.heap.size + 2 < x1.w.heap.size := (by omega)
  go_wp2_with fail
  refine calls_after (HR.out _) ?_
  intro x2
  have hz_x2 := x2.out.size; (try simp only [World.size_alloc, World.size_setCell, After.size_set] at hz_x2); have k0_x2 : w.heap.size < x2.w.heap.size := (by omega); have k1_x2 : w.heap.size + 1 < x2.w.heap.size := (by omega); have k2_x2 : w.heap.size + 2 < x2.w.heap.size := (by omega); have k3_x2 : x1.w.heap.size < x2.w.heap.size := (by omega)
  go_wp2_with fail
  refine wp_region_after (by kernel_rfl) (by kernel_rfl) ?_; (repeat (first | go_big_quiet_step ((first | (go_at_call 28; exact quiet_after (HV.out _)) | (go_at_call 29; exact quiet_after (HW.out _)))) | (refine wpQuiet_step (fun K hK => ?_); go_simp; first | (refine hK _ ?_; clear hK K) | (apply Exists.intro; refine ⟨fun x => ?_, hK _ ?_⟩; (first | (go_at_call 28; exact quiet_after (HV.out _)) | (go_at_call 29; exact quiet_after (HW.out _))); clear hK K)))); refine wpQuiet_nil ?_
  intro x3
  have hz_x3 := x3.out.size; (try simp only [World.size_alloc, World.size_setCell, After.size_set] at hz_x3); have k0_x3 : w.heap.size < x3.w.heap.size := (by omega); have k1_x3 : w.heap.size + 1 < x3.w.heap.size := (by omega); have k2_x3 : w.heap.size + 2 < x3.w.heap.size := (by omega); have k3_x3 : x1.w.heap.size < x3.w.heap.size := (by omega); have k4_x3 : x2.w.heap.size < x3.w.heap.size := (by omega)
  go_wp2_with fail
  refine calls_after2 (HA.out _) ?_
  intro x4
  have hz_x4 := x4.out.size; (try simp only [World.size_alloc, World.size_setCell, After.size_set] at hz_x4); have k0_x4 : w.heap.size < x4.w.heap.size := (by omega); have k1_x4 : w.heap.size + 1 < x4.w.heap.size := (by omega); have k2_x4 : w.heap.size + 2 < x4.w.heap.size := (by omega); have k3_x4 : x1.w.heap.size < x4.w.heap.size := (by omega); have k4_x4 : x2.w.heap.size < x4.w.heap.size := (by omega)
  go_wp2_with fail
  refine calls_after (HB.out _) ?_
  intro x5
  have hz_x5 := x5.out.size; (try simp only [World.size_alloc, World.size_setCell, After.size_set] at hz_x5); have k0_x5 : w.heap.size < x5.w.heap.size := (by omega); have k1_x5 : w.heap.size + 1 < x5.w.heap.size := (by omega); have k2_x5 : w.heap.size + 2 < x5.w.heap.size := (by omega); have k3_x5 : x1.w.heap.size < x5.w.heap.size := (by omega); have k4_x5 : x2.w.heap.size < x5.w.heap.size := (by omega); have k5_x5 : x4.w.heap.size < x5.w.heap.size := (by omega)
  go_wp2_with fail
  refine calls_after (HD.out _) ?_
  intro x6
  have hz_x6 := x6.out.size; (try simp only [World.size_alloc, World.size_setCell, After.size_set] at hz_x6); have k0_x6 : w.heap.size < x6.w.heap.size := (by omega); have k1_x6 : w.heap.size + 1 < x6.w.heap.size := (by omega); have k2_x6 : w.heap.size + 2 < x6.w.heap.size := (by omega); have k3_x6 : x1.w.heap.size < x6.w.heap.size := (by omega); have k4_x6 : x2.w.heap.size < x6.w.heap.size := (by omega); have k5_x6 : x4.w.heap.size < x6.w.heap.size := (by omega); have k6_x6 : x5.w.heap.size < x6.w.heap.size := (by omega)
  go_wp2_with fail
  refine calls_after2 (HE.out _) ?_
  intro x7
  have hz_x7 := x7.out.size; (try simp only [World.size_alloc, World.size_setCell, After.size_set] at hz_x7); have k0_x7 : w.heap.size < x7.w.heap.size := (by omega); have k1_x7 : w.heap.size + 1 < x7.w.heap.size := (by omega); have k2_x7 : w.heap.size + 2 < x7.w.heap.size := (by omega); have k3_x7 : x1.w.heap.size < x7.w.heap.size := (by omega); have k4_x7 : x2.w.heap.size < x7.w.heap.size := (by omega); have k5_x7 : x4.w.heap.size < x7.w.heap.size := (by omega); have k6_x7 : x5.w.heap.size < x7.w.heap.size := (by omega)
  go_wp2_with fail
  refine calls_after2 (awake_any _) ?_
  intro x8
  go_wp2
  go_ret
  exact ⟨rfl, by (repeat' (first | (with_reducible exact Below.refl _ _) | (with_reducible assumption) | (with_reducible refine Below.alloc ?_ ?_ _) | (with_reducible refine Below.drew ?_) | (with_reducible refine below_drewN ?_ _) | (with_reducible refine Below.setCell ?_ ?_ _) | (with_reducible refine below_after ?_ ?_ _) | (with_reducible refine below_set ?_) | (with_reducible refine After.size_le _ ?_) | (with_reducible refine size_alloc_le ?_) | (with_reducible refine size_set_le ?_) | (with_reducible refine size_drewN_le ?_) | go_size))⟩
end Go.Proofs.Ytdhobjflfhijjaa
