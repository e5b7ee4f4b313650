/- For every cradle and three numbers RopeStands returns true and leaves its arguments as they were: neither rope bears more than the limit exactly if Walk has the place. Conditions: none beyond the row. -/
import Derived.Test.YtnhkkboddoiinaaOpenc
import Derived.Test.YtnhkkboddoiinaaLawStands
namespace Go.Proofs.Ytnhkkboddoiinaa
open Go.ChangeShapes Go.WideShapes Go.ChangeAt Go.RowKit Go.Joins

set_option maxRecDepth 100000 in
theorem ropeStands_lifted (os : Os) (started : os.Started) (H : Type) (enc : TypeId × Value → H) :
    ReturnsInHanded {} Try.checked os 8 .any (Rows.ropeStandsSpec.pre6 enc Try.prog Try.f8 Rows.ropeStandsRow.domain false) (Rows.ropeStandsSpec.post enc Try.prog Try.f8 false true false false) := by
  refine returnsInHanded_of_change (C := Try.checked) Try.own started (by kernel_rfl) Try.func8
    (ChangeSpec.witness6 (enc := enc) (C := Try.checked) false ⟨#[], #[.agg #[.int .i64 0, .slice none 0 0], .agg #[.int .i64 0, .int .i64 0, .int .i64 0]], []⟩ 8 (by kernel_rfl) (by kernel_rfl) (by kernel_rfl) (by kernel_rfl)) ?_
  intro W base args ds gs before hval0 hW _ _
  have hval : ∀ (j : Nat) t v, Try.f8.params[j]? = some t → args[j]? = some v → Value.okWide Try.prog W .any base t v := hval0
  have hW' := hW
  obtain ⟨p, q, hA0, hV, rfl, _, _⟩ := hW
  have hA : DataW.TrodAll enc Try.prog W 0 (fun _ => true) true Try.f8.params.toList args.toList ds p := hA0
  rw [Try.params8] at hA hval
  obtain ⟨v0, v1, d0, d1, p0, p1, rfl, rfl, rfl, h0, h1⟩ := trodAll_two hA
  obtain ⟨rfl, rfl⟩ := trodVars_none hV
  obtain ⟨c0, s0, y0, z0, m0, rfl, _, _, hy0, hz0⟩ := open_agg2 Try.underlying46 (by kernel_rfl) cellsCradle (hval 0 46 v0 rfl rfl) h0
  obtain ⟨x00, e0, _, w00⟩ := DataW.trod_int Try.underlying3 hy0
  simp at e0
  subst e0
  obtain ⟨l0, hl0⟩ := open_prcK Try.underlying40 Try.underlying52 cellsLoad (by kernel_rfl) (by kernel_rfl) hz0
  obtain ⟨x10, x11, x12, rfl, w10, w11, w12⟩ := open_arr3 Try.underlying24 Try.underlying3 cellsArr3 cellsInt (hval 1 24 v1 rfl rfl) h1
  refine (ropeStands_all x00 _ l0 x10 x11 x12 W hl0).mono fun e W' ⟨he, hb⟩ => ?_
  subst he
  exact ⟨_, rfl, law_post Try.laidOut hW' rfl (by kernel_rfl) Try.underlying4 (by
    intro t ht
    simp [Try.params8] at ht
    rcases ht with rfl | rfl <;> exact ⟨by kernel_rfl, of_decide_eq_true (by kernel_rfl)⟩) (fun es => by cases es with | nil => exact .inl rfl | cons _ _ => exact .inr (by simp)) hb⟩

theorem ropeStands_holds : Rows.RopeStandsSaid :=
  OpenClaim.holds_of_wide 8 Try.f8 rfl rfl rfl rfl rfl rfl rfl ⟨rfl, rfl, rfl, rfl, rfl⟩ rfl rfl rfl rfl rfl (by kernel_rfl) Try.func8 (by kernel_rfl)
    (of_decide_eq_true (by kernel_rfl)) (by unfold Func.isWrapper; first | (rw [if_pos (by decide +kernel)]; kernel_rfl) | (rw [if_neg (by decide +kernel)]; exact ⟨rfl, rfl⟩))
    (fun os started H enc _ => ropeStands_lifted os started H enc)
end Go.Proofs.Ytnhkkboddoiinaa
