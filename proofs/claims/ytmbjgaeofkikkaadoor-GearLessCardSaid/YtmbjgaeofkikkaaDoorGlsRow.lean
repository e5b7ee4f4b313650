/- For every gear, every rig, all batches, days and loads GearLess returns true and leaves its arguments as they were: a rig that may lift loads may lift lesser ones, and on earlier days, until the day that Until tells. Conditions: none beyond the row. -/
import Derived.Test.YtmbjgaeofkikkaaDoorGrv
import Derived.Test.YtmbjgaeofkikkaaDoorLawGls
namespace Go.Proofs.YtmbjgaeofkikkaaDoor
open Go.ChangeShapes Go.WideShapes Go.ChangeAt Go.RowKit Go.Joins

set_option maxRecDepth 100000 in
theorem gearLess_lifted (os : Os) (started : os.Started) (H : Type) (enc : TypeId × Value → H) :
    ReturnsInHanded {} Tryd.checked os 7 .any (fun w args => (Rows.gearLessSpec.pre enc Tryd.prog Tryd.f7 [] false w args ∧ laidMetH Tryd.prog laidL w) ∧ sizedMet enc Tryd.prog Tryd.f7 (OpenSpec.ofChange Rows.gearLessSpec) false w args) (Rows.gearLessSpec.post enc Tryd.prog Tryd.f7 false true false false) := by
  refine handed_shaped (C := Tryd.checked) (X := fun w _ => laidMetH Tryd.prog laidL w) (fun _ _ _ hh h => h.of_heap hh) Tryd.own started (by kernel_rfl) Tryd.func7
    (ChangeSpec.witness_shaped (enc := enc) (C := Tryd.checked) (os := os) (X := fun w _ => laidMetH Tryd.prog laidL w) false (World.laidAll Tryd.prog os laidL) #[.slice none 0 0, .slice none 0 0, .slice none 0 0, .int .i64 0, .slice none 0 0, .int .i64 0, .slice none 0 0] 8 (World.laidAll_os _ _ _) (World.shaped_of_ZipB (by kernel_rfl) (by kernel_rfl)) (by kernel_rfl) (by kernel_rfl) (by kernel_rfl) (all_met os _)) ?_
  intro W base args ds gs before hval0 hW hL _
  have hval : ∀ (j : Nat) t v, Tryd.f7.params[j]? = some t → args[j]? = some v → Value.okWide Tryd.prog W .any base t v := hval0
  have hW' := hW
  obtain ⟨p, q, hA0, hV, rfl, _, _⟩ := hW
  have hA : DataW.TrodAll enc Tryd.prog W 0 (fun _ => true) true Tryd.f7.params.toList args.toList ds p := hA0
  rw [Tryd.params7] at hA hval
  obtain ⟨v0, v1, v2, v3, v4, v5, v6, d0, d1, d2, d3, d4, d5, d6, p0, p1, p2, p3, p4, p5, p6, rfl, rfl, h0, h1, h2, h3, h4, h5, h6⟩ := trodAll_seven hA
  obtain ⟨rfl, rfl⟩ := trodVars_none hV
  obtain ⟨a0, n0, c0, gm0, gl0, gd0, gb0, rfl, hc0, hm0, hi0, hs0, ht0⟩ := open_items Tryd.underlying22 Tryd.underlying62 cellsItem rfl rfl rfl rfl (by kernel_rfl) (by kernel_rfl) (by kernel_rfl) (by kernel_rfl) Tryd.underlying9 Tryd.underlying3 Tryd.underlying3 Tryd.underlying9 (hval 0 22 v0 rfl rfl) h0
  obtain ⟨a1, n1, c1, lm1, lf1, rfl, hc1, hm1, hi1, hs1⟩ := open_links Tryd.underlying23 Tryd.underlying37 cellsLink rfl rfl (by kernel_rfl) (by kernel_rfl) Tryd.underlying9 Tryd.underlying3 (hval 1 23 v1 rfl rfl) h1
  obtain ⟨a2, n2, c2, gs2, rfl, hc2, hm2, hi2⟩ := open_texts Tryd.underlying39 Tryd.underlying9 cellsText (hval 2 39 v2 rfl rfl) h2
  obtain ⟨x30, rfl, _, _, w30⟩ := open_int Tryd.underlying3 (hval 3 3 v3 rfl rfl) h3
  obtain ⟨a4, n4, c4, f4, rfl, hc4, hm4, hi4⟩ := open_nums Tryd.underlying30 Tryd.underlying3 cellsIntw (hval 4 30 v4 rfl rfl) h4
  obtain ⟨x50, rfl, _, _, w50⟩ := open_int Tryd.underlying3 (hval 5 3 v5 rfl rfl) h5
  obtain ⟨a6, n6, c6, f6, rfl, hc6, hm6, hi6⟩ := open_nums Tryd.underlying30 Tryd.underlying3 cellsIntw (hval 6 30 v6 rfl rfl) h6
  refine (gearLess_any a0 n0 c0 gm0 gl0 gd0 gb0 a1 n1 c1 lm1 lf1 a2 n2 c2 gs2 x30 a4 n4 c4 f4 x50 a6 n6 c6 f6 W hi0 hi1 hi2 hi4 hi6 (by omega) (by omega) (by omega) (by omega) (by omega) hc1 hs0 ht0 hs1).mono fun e W' ⟨he, hb⟩ => ?_
  subst he
  exact ⟨_, rfl, law_post Tryd.laidOut hW' rfl (by kernel_rfl) Tryd.underlying4 (by
    intro t ht
    simp [Tryd.params7] at ht
    rcases ht with rfl | rfl | rfl | rfl | rfl | rfl | rfl <;> exact ⟨by kernel_rfl, of_decide_eq_true (by kernel_rfl)⟩) (fun es => by cases es with | nil => exact .inl rfl | cons _ _ => exact .inr (by simp)) hb⟩

theorem gearLess_holds : Rows.GearLessSaid :=
  OpenClaim.holds_of_wide 7 Tryd.f7 rfl rfl rfl rfl rfl rfl rfl ⟨rfl, rfl, rfl, rfl, rfl⟩ rfl rfl rfl rfl rfl (by kernel_rfl) Tryd.func7 (by kernel_rfl)
    (of_decide_eq_true (by kernel_rfl)) (by unfold Func.isWrapper; first | (rw [if_pos (by decide +kernel)]; kernel_rfl) | (rw [if_neg (by decide +kernel)]; exact ⟨rfl, rfl⟩))
    (fun os started H enc _ => gearLess_lifted os started H enc)
end Go.Proofs.YtmbjgaeofkikkaaDoor
