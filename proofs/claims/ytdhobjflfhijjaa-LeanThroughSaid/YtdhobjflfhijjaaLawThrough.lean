/- LeanThrough: the law's walk. -/
import Derived.Test.YtdhobjflfhijjaaNearest
import Derived.Test.YtdhobjflfhijjaaLMath
namespace Go.Proofs.Ytdhobjflfhijjaa
open Go.RowKit
attribute [local go_sem 10000] eql_line neq_line eql_ratio neq_ratio eql_point neq_point eql_mark neq_mark
attribute [local go_sem] After.cell After.frozen After.lt After.le After.ne After.ne' After.set_eq After.size_set After.lt_add eq3_self eq2_self

set_option maxRecDepth 100000 in
set_option maxHeartbeats 1000000 in
/-- Where the two calls answer an error. -/
theorem leanThrough_err (ph px qh qx e : Int) (he : (e == 0) = false) (w : World)
    (HT : Hid (∀ w, Calls Try.prog 34 #[.agg #[.int .i64 ph, .int .i64 px], .agg #[.int .i64 qh, .int .i64 qx]] w fun e' w' => e' = .returned (.tuple #[.agg #[.int .i64 0, .int .i64 0, .int .i64 0], .int .i64 e]) ∧ Below w.heap.size w w'))
    (HR : Hid (∀ w, Calls Try.prog 35 #[.agg #[.int .i64 ph, .int .i64 px], .agg #[.int .i64 qh, .int .i64 qx]] w fun e' w' => e' = .returned (.tuple #[.agg #[.int .i64 0, .int .i64 0, .int .i64 0], .int .i64 e]) ∧ Below w.heap.size w w')) :
    Calls Try.prog 5 #[.agg #[.int .i64 ph, .int .i64 px], .agg #[.int .i64 qh, .int .i64 qx]] w fun e w' => e = .returned (.bool true) ∧ Below w.heap.size w w' := by
  go_enter Try.func5, Try.ntmps5
  go_wp2_with fail
  refine calls_after (HT.out _) ?_
  intro x1
  have hz_x1 := x1.out.size; (try simp only [World.size_alloc, World.size_setCell, After.size_set] at hz_x1); have k0_x1 : w.heap.size < x1.w.heap.size := (by omega); have k1_x1 : w.heap.size + 1 < x1.w.heap.size := (by omega)
  go_wp2_with fail
  refine calls_after (HR.out _) ?_
  intro x2
  have hz_x2 := x2.out.size; (try simp only [World.size_alloc, World.size_setCell, After.size_set] at hz_x2); have k0_x2 : w.heap.size < x2.w.heap.size := (by omega); have k1_x2 : w.heap.size + 1 < x2.w.heap.size := (by omega); have k2_x2 : x1.w.heap.size < x2.w.heap.size := (by omega)
  go_wp2_with fail
  refine calls_after (awake_any _) ?_
  intro x3
  go_wp2
  go_ret
  exact ⟨rfl, by (repeat' (first | (with_reducible exact Below.refl _ _) | (with_reducible assumption) | (with_reducible refine Below.alloc ?_ ?_ _) | (with_reducible refine Below.drew ?_) | (with_reducible refine below_drewN ?_ _) | (with_reducible refine Below.setCell ?_ ?_ _) | (with_reducible refine below_after ?_ ?_ _) | (with_reducible refine below_set ?_) | (with_reducible refine After.size_le _ ?_) | (with_reducible refine size_alloc_le ?_) | (with_reducible refine size_set_le ?_) | (with_reducible refine size_drewN_le ?_) | go_size))⟩

set_option maxRecDepth 100000 in
set_option maxHeartbeats 1000000 in
/-- Where both answer one line that both points are on. -/
theorem leanThrough_ok (ph px qh qx A B D d1 d2 : Int) (w : World)
    (HT : Hid (∀ w, Calls Try.prog 34 #[.agg #[.int .i64 ph, .int .i64 px], .agg #[.int .i64 qh, .int .i64 qx]] w fun e' w' => e' = .returned (.tuple #[.agg #[.int .i64 A, .int .i64 B, .int .i64 D], .int .i64 0]) ∧ Below w.heap.size w w'))
    (HR : Hid (∀ w, Calls Try.prog 35 #[.agg #[.int .i64 ph, .int .i64 px], .agg #[.int .i64 qh, .int .i64 qx]] w fun e' w' => e' = .returned (.tuple #[.agg #[.int .i64 A, .int .i64 B, .int .i64 D], .int .i64 0]) ∧ Below w.heap.size w w'))
    (HP : Hid (∀ w, Calls Try.prog 32 #[.agg #[.int .i64 A, .int .i64 B, .int .i64 D], .agg #[.int .i64 ph, .int .i64 px]] w fun e w' => e = .returned (.tuple #[.agg #[.int .i64 0, .int .i64 d1], .int .i64 0]) ∧ Below w.heap.size w w'))
    (HQ : Hid (∀ w, Calls Try.prog 32 #[.agg #[.int .i64 A, .int .i64 B, .int .i64 D], .agg #[.int .i64 qh, .int .i64 qx]] w fun e w' => e = .returned (.tuple #[.agg #[.int .i64 0, .int .i64 d2], .int .i64 0]) ∧ Below w.heap.size w w')) :
    Calls Try.prog 5 #[.agg #[.int .i64 ph, .int .i64 px], .agg #[.int .i64 qh, .int .i64 qx]] w fun e w' => e = .returned (.bool true) ∧ Below w.heap.size w w' := by
  go_enter Try.func5, Try.ntmps5
  go_wp2_with fail
  refine calls_after (HT.out _) ?_
  intro x1
  have hz_x1 := x1.out.size; (try simp only [World.size_alloc, World.size_setCell, After.size_set] at hz_x1); have k0_x1 : w.heap.size < x1.w.heap.size := (by omega); have k1_x1 : w.heap.size + 1 < x1.w.heap.size := (by omega)
  go_wp2_with fail
  refine calls_after (HR.out _) ?_
  intro x2
  have hz_x2 := x2.out.size; (try simp only [World.size_alloc, World.size_setCell, After.size_set] at hz_x2); have k0_x2 : w.heap.size < x2.w.heap.size := (by omega); have k1_x2 : w.heap.size + 1 < x2.w.heap.size := (by omega); have k2_x2 : x1.w.heap.size < x2.w.heap.size := (by omega)
  go_wp2_with fail
  refine calls_after (HP.out _) ?_
  intro x3
  have hz_x3 := x3.out.size; (try simp only [World.size_alloc, World.size_setCell, After.size_set] at hz_x3); have k0_x3 : w.heap.size < x3.w.heap.size := (by omega); have k1_x3 : w.heap.size + 1 < x3.w.heap.size := (by omega); have k2_x3 : x1.w.heap.size < x3.w.heap.size := (by omega); have k3_x3 : x2.w.heap.size < x3.w.heap.size := (by omega)
  go_wp2_with fail
  refine calls_after (HQ.out _) ?_
  intro x4
  have hz_x4 := x4.out.size; (try simp only [World.size_alloc, World.size_setCell, After.size_set] at hz_x4); have k0_x4 : w.heap.size < x4.w.heap.size := (by omega); have k1_x4 : w.heap.size + 1 < x4.w.heap.size := (by omega); have k2_x4 : x1.w.heap.size < x4.w.heap.size := (by omega); have k3_x4 : x2.w.heap.size < x4.w.heap.size := (by omega); have k4_x4 : x3.w.heap.size < x4.w.heap.size := (by omega)
  go_wp2_with fail
  refine calls_after (awake_any _) ?_
  intro x5
  go_wp2
  go_ret
  exact ⟨rfl, by (repeat' (first | (with_reducible exact Below.refl _ _) | (with_reducible assumption) | (with_reducible refine Below.alloc ?_ ?_ _) | (with_reducible refine Below.drew ?_) | (with_reducible refine below_drewN ?_ _) | (with_reducible refine Below.setCell ?_ ?_ _) | (with_reducible refine below_after ?_ ?_ _) | (with_reducible refine below_set ?_) | (with_reducible refine After.size_le _ ?_) | (with_reducible refine size_alloc_le ?_) | (with_reducible refine size_set_le ?_) | (with_reducible refine size_drewN_le ?_) | go_size))⟩

/-- The distance of a point that a divided line goes through. -/
theorem distance_zero {a b d h x : Int} (hI : InBd a b d) (hp : InPt h x) (h0 : offV a b d h x = 0) (w : World) :
    Calls Try.prog 32 #[.agg #[.int .i64 (mkA a b d), .int .i64 (mkB a b d), .int .i64 (mkD a b d)], .agg #[.int .i64 h, .int .i64 x]] w fun e w' => e = .returned (.tuple #[.agg #[.int .i64 0, .int .i64 (disD (mkA a b d) (mkB a b d) (mkD a b d) h x)], .int .i64 0]) ∧ Below w.heap.size w w' := by
  have f := mk_facts hI
  have e := off_mk hI h x
  rw [h0] at e
  have e0 : offV (mkA a b d) (mkB a b d) (mkD a b d) h x = 0 := by
    rcases Int.mul_eq_zero.1 e with h1 | h1
    · have := f.pos; omega
    · exact h1
  have hN : disN (mkA a b d) (mkB a b d) (mkD a b d) h x = 0 := by unfold disN; rw [if_pos ⟨f.good, hp⟩, e0]; exact ratN_zero _
  have hE : disE (mkA a b d) (mkB a b d) (mkD a b d) h x = 0 := by unfold disE; rw [if_pos ⟨f.good, hp⟩]
  have := distance_any (mkA a b d) (mkB a b d) (mkD a b d) h x w
  rw [hN, hE] at this
  exact this

theorem leanThrough_any (p q : Int × Int) (w : World) :
    Calls Try.prog 5 #[.agg #[.int .i64 p.1, .int .i64 p.2], .agg #[.int .i64 q.1, .int .i64 q.2]] w fun e w' => e = .returned (.bool true) ∧ Below w.heap.size w w' := by
  by_cases hv : InPt p.1 p.2 ∧ InPt q.1 q.2
  · obtain ⟨hp, hq⟩ := hv
    rcases (show p.1 = q.1 ∨ p.1 < q.1 ∨ q.1 < p.1 by omega) with h | h | h
    · exact leanThrough_err _ _ _ _ 10 rfl w (fun w => through_same p q w hp hq h) (fun w => rthrough_same p q w hp hq h)
    · have hI := thr_in hp hq h
      have e := (mk_facts hI).err
      have h1 := fun w => through_lt p q w hp hq h
      have h2 := fun w => rthrough_lt p q w hp hq h
      rw [e] at h1 h2
      exact leanThrough_ok _ _ _ _ _ _ _ _ _ w h1 h2 (fun w => distance_zero hI hp (thr_off_left p q) w) (fun w => distance_zero hI hq (thr_off_right p q) w)
    · have hI := thr_in hq hp h
      have e := (mk_facts hI).err
      have h1 := fun w => through_gt p q w hp hq h
      have h2 := fun w => rthrough_gt p q w hp hq h
      rw [e] at h1 h2
      exact leanThrough_ok _ _ _ _ _ _ _ _ _ w h1 h2 (fun w => distance_zero hI hp (thr_off_right q p) w) (fun w => distance_zero hI hq (thr_off_left q p) w)
  · exact leanThrough_err _ _ _ _ 1 rfl w (fun w => through_bad p q w hv) (fun w => rthrough_bad p q w hv)
end Go.Proofs.Ytdhobjflfhijjaa
