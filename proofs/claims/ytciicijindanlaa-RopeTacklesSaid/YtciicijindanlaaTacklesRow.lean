/- For every tackle and three numbers RopeTackles returns true and leaves its arguments as they were: ValidTackle, Gain, Lifted, Pull and Hauled answer as the reference does. Conditions: none beyond the row. -/
import Derived.Test.YtciicijindanlaaOpenr
import Derived.Test.YtciicijindanlaaLawTackles
namespace Go.Proofs.Ytciicijindanlaa
open Go.ChangeShapes Go.WideShapes Go.ChangeAt Go.RowKit Go.Joins

set_option maxRecDepth 100000 in
theorem ropeTackles_lifted (os : Os) (started : os.Started) (H : Type) (enc : TypeId × Value → H) :
    ReturnsInHanded {} Try.checked os 3 .any (Rows.ropeTacklesSpec.pre6 enc Try.prog Try.f3 Rows.ropeTacklesRow.domain false) (Rows.ropeTacklesSpec.post enc Try.prog Try.f3 false true false false) := by
  refine returnsInHanded_of_change (C := Try.checked) Try.own started (by kernel_rfl) Try.func3
    (ChangeSpec.witness6 (enc := enc) (C := Try.checked) false ⟨#[], #[.agg #[.int .i64 0, .int .i64 0], .agg #[.int .i64 0, .int .i64 0, .int .i64 0]], []⟩ 8 (by kernel_rfl) (by kernel_rfl) (by kernel_rfl) (by kernel_rfl)) ?_
  intro W base args ds gs before hval0 hW _ _
  have hval : ∀ (j : Nat) t v, Try.f3.params[j]? = some t → args[j]? = some v → Value.okWide Try.prog W .any base t v := hval0
  have hW' := hW
  obtain ⟨p, q, hA0, hV, rfl, _, _⟩ := hW
  have hA : DataW.TrodAll enc Try.prog W 0 (fun _ => true) true Try.f3.params.toList args.toList ds p := hA0
  rw [Try.params3] at hA hval
  obtain ⟨v0, v1, d0, d1, p0, p1, rfl, rfl, rfl, h0, h1⟩ := trodAll_two hA
  obtain ⟨rfl, rfl⟩ := trodVars_none hV
  obtain ⟨x00, x01, rfl, w00, w01⟩ := open_val2 Try.underlying23 (by kernel_rfl) Try.underlying3 Try.underlying3 cellsTackle (hval 0 23 v0 rfl rfl) h0
  obtain ⟨x10, x11, x12, rfl, w10, w11, w12⟩ := open_arr3 Try.underlying24 Try.underlying3 cellsArr3 cellsInt (hval 1 24 v1 rfl rfl) h1
  refine (ropeTackles_any x00 x01 x10 x11 x12 W).mono fun e W' ⟨he, hb⟩ => ?_
  subst he
  exact ⟨_, rfl, law_post Try.laidOut hW' rfl (by kernel_rfl) Try.underlying4 (by
    intro t ht
    simp [Try.params3] at ht
    rcases ht with rfl | rfl <;> exact ⟨by kernel_rfl, of_decide_eq_true (by kernel_rfl)⟩) (fun es => by cases es with | nil => exact .inl rfl | cons _ _ => exact .inr (by simp)) hb⟩

theorem ropeTackles_holds : Rows.RopeTacklesSaid :=
  OpenClaim.holds_of_wide 3 Try.f3 rfl rfl rfl rfl rfl rfl rfl ⟨rfl, rfl, rfl, rfl, rfl⟩ rfl rfl rfl rfl rfl (by kernel_rfl) Try.func3 (by kernel_rfl)
    (of_decide_eq_true (by kernel_rfl)) (by unfold Func.isWrapper; first | (rw [if_pos (by decide +kernel)]; kernel_rfl) | (rw [if_neg (by decide +kernel)]; exact ⟨rfl, rfl⟩))
    (fun os started H enc _ => ropeTackles_lifted os started H enc)
end Go.Proofs.Ytciicijindanlaa
