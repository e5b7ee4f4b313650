/- For every cradle, weight and limit RopeWalks returns true and leaves its arguments as they were: Walk and Level answer as the reference does. Conditions: none beyond the row. -/
import Derived.Test.YtnhkkboddoiinaaOpenc
import Derived.Test.YtnhkkboddoiinaaLawWalks
namespace Go.Proofs.Ytnhkkboddoiinaa
open Go.ChangeShapes Go.WideShapes Go.ChangeAt Go.RowKit Go.Joins

set_option maxRecDepth 100000 in
theorem ropeWalks_lifted (os : Os) (started : os.Started) (H : Type) (enc : TypeId × Value → H) :
    ReturnsInHanded {} Try.checked os 7 .any (Rows.ropeWalksSpec.pre6 enc Try.prog Try.f7 Rows.ropeWalksRow.domain false) (Rows.ropeWalksSpec.post enc Try.prog Try.f7 false true false false) := by
  refine returnsInHanded_of_change (C := Try.checked) Try.own started (by kernel_rfl) Try.func7
    (ChangeSpec.witness6 (enc := enc) (C := Try.checked) false ⟨#[], #[.agg #[.int .i64 0, .slice none 0 0], .int .i64 0, .int .i64 0], []⟩ 8 (by kernel_rfl) (by kernel_rfl) (by kernel_rfl) (by kernel_rfl)) ?_
  intro W base args ds gs before hval0 hW _ _
  have hval : ∀ (j : Nat) t v, Try.f7.params[j]? = some t → args[j]? = some v → Value.okWide Try.prog W .any base t v := hval0
  have hW' := hW
  obtain ⟨p, q, hA0, hV, rfl, _, _⟩ := hW
  have hA : DataW.TrodAll enc Try.prog W 0 (fun _ => true) true Try.f7.params.toList args.toList ds p := hA0
  rw [Try.params7] at hA hval
  obtain ⟨v0, v1, v2, d0, d1, d2, p0, p1, p2, rfl, rfl, rfl, h0, h1, h2⟩ := trodAll_three hA
  obtain ⟨rfl, rfl⟩ := trodVars_none hV
  obtain ⟨c0, s0, y0, z0, m0, rfl, _, _, hy0, hz0⟩ := open_agg2 Try.underlying46 (by kernel_rfl) cellsCradle (hval 0 46 v0 rfl rfl) h0
  obtain ⟨x00, e0, _, w00⟩ := DataW.trod_int Try.underlying3 hy0
  simp at e0
  subst e0
  obtain ⟨l0, hl0⟩ := open_prcK Try.underlying40 Try.underlying52 cellsLoad (by kernel_rfl) (by kernel_rfl) hz0
  obtain ⟨x10, rfl, _, _, w10⟩ := open_int Try.underlying3 (hval 1 3 v1 rfl rfl) h1
  obtain ⟨x20, rfl, _, _, w20⟩ := open_int Try.underlying3 (hval 2 3 v2 rfl rfl) h2
  refine (ropeWalks_any x00 _ l0 x10 x20 W hl0).mono fun e W' ⟨he, hb⟩ => ?_
  subst he
  exact ⟨_, rfl, law_post Try.laidOut hW' rfl (by kernel_rfl) Try.underlying4 (by
    intro t ht
    simp [Try.params7] at ht
    rcases ht with rfl | rfl <;> exact ⟨by kernel_rfl, of_decide_eq_true (by kernel_rfl)⟩) (fun es => by cases es with | nil => exact .inl rfl | cons _ _ => exact .inr (by simp)) hb⟩

theorem ropeWalks_holds : Rows.RopeWalksSaid :=
  OpenClaim.holds_of_wide 7 Try.f7 rfl rfl rfl rfl rfl rfl rfl ⟨rfl, rfl, rfl, rfl, rfl⟩ rfl rfl rfl rfl rfl (by kernel_rfl) Try.func7 (by kernel_rfl)
    (of_decide_eq_true (by kernel_rfl)) (by unfold Func.isWrapper; first | (rw [if_pos (by decide +kernel)]; kernel_rfl) | (rw [if_neg (by decide +kernel)]; exact ⟨rfl, rfl⟩))
    (fun os started H enc _ => ropeWalks_lifted os started H enc)
end Go.Proofs.Ytnhkkboddoiinaa
