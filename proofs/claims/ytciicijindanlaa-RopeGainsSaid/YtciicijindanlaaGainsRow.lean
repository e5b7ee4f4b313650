/- For every two tackles and a number RopeGains returns true and leaves its arguments as they were: more parts and a greater Keep never lift less, a pull lifts its load and one newton less does not. Conditions: none beyond the row. -/
import Derived.Test.YtciicijindanlaaOpenr
import Derived.Test.YtciicijindanlaaLawGains
namespace Go.Proofs.Ytciicijindanlaa
open Go.ChangeShapes Go.WideShapes Go.ChangeAt Go.RowKit Go.Joins

set_option maxRecDepth 100000 in
theorem ropeGains_lifted (os : Os) (started : os.Started) (H : Type) (enc : TypeId × Value → H) :
    ReturnsInHanded {} Try.checked os 5 .any (Rows.ropeGainsSpec.pre6 enc Try.prog Try.f5 Rows.ropeGainsRow.domain false) (Rows.ropeGainsSpec.post enc Try.prog Try.f5 false true false false) := by
  refine returnsInHanded_of_change (C := Try.checked) Try.own started (by kernel_rfl) Try.func5
    (ChangeSpec.witness6 (enc := enc) (C := Try.checked) false ⟨#[], #[.agg #[.int .i64 0, .int .i64 0], .agg #[.int .i64 0, .int .i64 0], .int .i64 0], []⟩ 8 (by kernel_rfl) (by kernel_rfl) (by kernel_rfl) (by kernel_rfl)) ?_
  intro W base args ds gs before hval0 hW _ _
  have hval : ∀ (j : Nat) t v, Try.f5.params[j]? = some t → args[j]? = some v → Value.okWide Try.prog W .any base t v := hval0
  have hW' := hW
  obtain ⟨p, q, hA0, hV, rfl, _, _⟩ := hW
  have hA : DataW.TrodAll enc Try.prog W 0 (fun _ => true) true Try.f5.params.toList args.toList ds p := hA0
  rw [Try.params5] at hA hval
  obtain ⟨v0, v1, v2, d0, d1, d2, p0, p1, p2, rfl, rfl, rfl, h0, h1, h2⟩ := trodAll_three hA
  obtain ⟨rfl, rfl⟩ := trodVars_none hV
  obtain ⟨x00, x01, rfl, w00, w01⟩ := open_val2 Try.underlying23 (by kernel_rfl) Try.underlying3 Try.underlying3 cellsTackle (hval 0 23 v0 rfl rfl) h0
  obtain ⟨x10, x11, rfl, w10, w11⟩ := open_val2 Try.underlying23 (by kernel_rfl) Try.underlying3 Try.underlying3 cellsTackle (hval 1 23 v1 rfl rfl) h1
  obtain ⟨x20, rfl, _, _, w20⟩ := open_int Try.underlying3 (hval 2 3 v2 rfl rfl) h2
  refine (ropeGains_any x00 x01 x10 x11 x20 W).mono fun e W' ⟨he, hb⟩ => ?_
  subst he
  exact ⟨_, rfl, law_post Try.laidOut hW' rfl (by kernel_rfl) Try.underlying4 (by
    intro t ht
    simp [Try.params5] at ht
    rcases ht with rfl | rfl <;> exact ⟨by kernel_rfl, of_decide_eq_true (by kernel_rfl)⟩) (fun es => by cases es with | nil => exact .inl rfl | cons _ _ => exact .inr (by simp)) hb⟩

theorem ropeGains_holds : Rows.RopeGainsSaid :=
  OpenClaim.holds_of_wide 5 Try.f5 rfl rfl rfl rfl rfl rfl rfl ⟨rfl, rfl, rfl, rfl, rfl⟩ rfl rfl rfl rfl rfl (by kernel_rfl) Try.func5 (by kernel_rfl)
    (of_decide_eq_true (by kernel_rfl)) (by unfold Func.isWrapper; first | (rw [if_pos (by decide +kernel)]; kernel_rfl) | (rw [if_neg (by decide +kernel)]; exact ⟨rfl, rfl⟩))
    (fun os started H enc _ => ropeGains_lifted os started H enc)
end Go.Proofs.Ytciicijindanlaa
