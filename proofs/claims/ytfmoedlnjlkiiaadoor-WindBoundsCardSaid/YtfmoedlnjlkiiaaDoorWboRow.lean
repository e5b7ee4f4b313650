/- For every rule and every two lists of numbers WindBounds returns true and leaves its arguments as they were: Bounds answers as the reference does, and with whatever gusts the missing minutes are filled, the minutes in which work goes lie within. Conditions: none beyond the row. -/
import Derived.Test.YtfmoedlnjlkiiaaDoorLaidv
import Derived.Test.YtfmoedlnjlkiiaaDoorLawWbo
namespace Go.Proofs.YtfmoedlnjlkiiaaDoor
open Go.ChangeShapes Go.WideShapes Go.ChangeAt Go.RowKit Go.Joins

set_option maxRecDepth 100000 in
theorem windBounds_lifted (os : Os) (started : os.Started) (H : Type) (enc : TypeId × Value → H) :
    ReturnsInHanded {} Tryd.checked os 6 .any (fun w args => (Rows.windBoundsSpec.pre enc Tryd.prog Tryd.f6 [] false w args ∧ laidMetH Tryd.prog laidL w) ∧ sizedMet enc Tryd.prog Tryd.f6 (OpenSpec.ofChange Rows.windBoundsSpec) false w args) (Rows.windBoundsSpec.post enc Tryd.prog Tryd.f6 false true false false) := by
  refine handed_shaped (C := Tryd.checked) (X := fun w _ => laidMetH Tryd.prog laidL w) (fun _ _ _ hh h => h.of_heap hh) Tryd.own started (by kernel_rfl) Tryd.func6
    (ChangeSpec.witness_shaped (enc := enc) (C := Tryd.checked) (os := os) (X := fun w _ => laidMetH Tryd.prog laidL w) false (World.laidAll Tryd.prog os laidL) #[.agg #[.int .i64 0, .int .i64 0, .int .i64 0], .slice none 0 0, .slice none 0 0] 8 (World.laidAll_os _ _ _) (World.shaped_of_ZipB (by kernel_rfl) (by kernel_rfl)) (by kernel_rfl) (by kernel_rfl) (by kernel_rfl) (all_met os _)) ?_
  intro W base args ds gs before hval0 hW hL _
  have hval : ∀ (j : Nat) t v, Tryd.f6.params[j]? = some t → args[j]? = some v → Value.okWide Tryd.prog W .any base t v := hval0
  have hW' := hW
  obtain ⟨p, q, hA0, hV, rfl, _, _⟩ := hW
  have hA : DataW.TrodAll enc Tryd.prog W 0 (fun _ => true) true Tryd.f6.params.toList args.toList ds p := hA0
  rw [Tryd.params6] at hA hval
  obtain ⟨v0, v1, v2, d0, d1, d2, p0, p1, p2, rfl, rfl, rfl, h0, h1, h2⟩ := trodAll_three hA
  obtain ⟨rfl, rfl⟩ := trodVars_none hV
  obtain ⟨x00, x01, x02, rfl, w00, w01, w02⟩ := open_val3 Tryd.underlying23 (by kernel_rfl) Tryd.underlying3 Tryd.underlying3 Tryd.underlying3 cellsRule (hval 0 23 v0 rfl rfl) h0
  obtain ⟨n1, f1, a1, c1, rfl, hl1, hm1, hi1, hz1⟩ := open_insC Tryd.underlying24 Tryd.underlying3 cellsIntw (hval 1 24 v1 rfl rfl) h1
  obtain ⟨n2, f2, a2, c2, rfl, hl2, hm2, hi2, hz2⟩ := open_insC Tryd.underlying24 Tryd.underlying3 cellsIntw (hval 2 24 v2 rfl rfl) h2
  have hS := stw_of hL
  refine (windBounds_any x00 x01 x02 a1 n1 c1 f1 a2 n2 c2 f2 W hi1 hi2 (by omega) hz1 hS).mono fun e W' ⟨he, hb⟩ => ?_
  subst he
  exact ⟨_, rfl, law_post Tryd.laidOut hW' rfl (by kernel_rfl) Tryd.underlying4 (by
    intro t ht
    simp [Tryd.params6] at ht
    rcases ht with rfl | rfl <;> exact ⟨by kernel_rfl, of_decide_eq_true (by kernel_rfl)⟩) (fun es => by cases es with | nil => exact .inl rfl | cons _ _ => exact .inr (by simp)) hb⟩

theorem windBounds_holds : Rows.WindBoundsSaid :=
  OpenClaim.holds_of_wide 6 Tryd.f6 rfl rfl rfl rfl rfl rfl rfl ⟨rfl, rfl, rfl, rfl, rfl⟩ rfl rfl rfl rfl rfl (by kernel_rfl) Tryd.func6 (by kernel_rfl)
    (of_decide_eq_true (by kernel_rfl)) (by unfold Func.isWrapper; first | (rw [if_pos (by decide +kernel)]; kernel_rfl) | (rw [if_neg (by decide +kernel)]; exact ⟨rfl, rfl⟩))
    (fun os started H enc _ => windBounds_lifted os started H enc)
end Go.Proofs.YtfmoedlnjlkiiaaDoor
