/- For every gear, rig and number of days TopRigs returns true and leaves its arguments as they were: a rig may lift its shares until its last day, and not later, not with a newton more at any end, and again when what is out of date is looked at. Conditions: none beyond the row. -/
import Derived.Test.YteojmhfocdlnoaaDoorTrGrw
import Derived.Test.YteojmhfocdlnoaaDoorTrLaw
namespace Go.Proofs.YteojmhfocdlnoaaDoor
open Go.Proofs.YteojmhfocdlnoaaDoor.Tr
open Go.ChangeShapes Go.WideShapes Go.ChangeAt Go.RowKit Go.Joins

set_option maxRecDepth 100000 in
theorem topRigs_lifted (os : Os) (started : os.Started) (H : Type) (enc : TypeId × Value → H) :
    ReturnsInHanded {} Tryd.checked os 3 .any (fun w args => (Rows.topRigsSpec.pre enc Tryd.prog Tryd.f3 [] false w args ∧ laidMetH Tryd.prog laidL w) ∧ sizedMet enc Tryd.prog Tryd.f3 (OpenSpec.ofChange Rows.topRigsSpec) false w args) (Rows.topRigsSpec.post enc Tryd.prog Tryd.f3 false true false false) := by
  refine handed_shaped (C := Tryd.checked) (X := fun w _ => laidMetH Tryd.prog laidL w) (fun _ _ _ hh h => h.of_heap hh) Tryd.own started (by kernel_rfl) Tryd.func3
    (ChangeSpec.witness_shaped (enc := enc) (C := Tryd.checked) (os := os) (X := fun w _ => laidMetH Tryd.prog laidL w) false (World.laidAll Tryd.prog os laidL) #[.slice none 0 0, .slice none 0 0, .int .i64 0] 8 (World.laidAll_os _ _ _) (World.shaped_of_ZipB (by kernel_rfl) (by kernel_rfl)) (by kernel_rfl) (by kernel_rfl) (by kernel_rfl) (all_met os _)) ?_
  intro W base args ds gs before hval0 hW hL _
  have hval : ∀ (j : Nat) t v, Tryd.f3.params[j]? = some t → args[j]? = some v → Value.okWide Tryd.prog W .any base t v := hval0
  have hW' := hW
  obtain ⟨p, q, hA0, hV, rfl, _, _⟩ := hW
  have hA : DataW.TrodAll enc Tryd.prog W 0 (fun _ => true) true Tryd.f3.params.toList args.toList ds p := hA0
  rw [Tryd.params3] at hA hval
  obtain ⟨v0, v1, v2, d0, d1, d2, p0, p1, p2, rfl, rfl, rfl, h0, h1, h2⟩ := trodAll_three hA
  obtain ⟨rfl, rfl⟩ := trodVars_none hV
  obtain ⟨a0, n0, c0, gm0, gl0, gd0, gb0, rfl, hc0, hm0, hi0, hs0, ht0⟩ := open_items Tryd.underlying22 Tryd.underlying38 cellsItem rfl rfl rfl rfl (by kernel_rfl) (by kernel_rfl) (by kernel_rfl) (by kernel_rfl) Tryd.underlying9 Tryd.underlying3 Tryd.underlying3 Tryd.underlying9 (hval 0 22 v0 rfl rfl) h0
  obtain ⟨a1, n1, c1, lm1, lf1, rfl, hc1, hm1, hi1, hs1⟩ := open_links Tryd.underlying23 Tryd.underlying36 cellsLink rfl rfl (by kernel_rfl) (by kernel_rfl) Tryd.underlying9 Tryd.underlying3 (hval 1 23 v1 rfl rfl) h1
  obtain ⟨x20, rfl, _, _, w20⟩ := open_int Tryd.underlying3 (hval 2 3 v2 rfl rfl) h2
  refine (topRigs_any a0 n0 c0 gm0 gl0 gd0 gb0 a1 n1 c1 lm1 lf1 x20 W hi0 hi1 hc0 hc1 hs0 ht0 hs1 (by omega) (by omega)).mono fun e W' ⟨he, hb⟩ => ?_
  subst he
  exact ⟨_, rfl, law_post Tryd.laidOut hW' rfl (by kernel_rfl) Tryd.underlying4 (by
    intro t ht
    simp [Tryd.params3] at ht
    rcases ht with rfl | rfl | rfl <;> exact ⟨by kernel_rfl, of_decide_eq_true (by kernel_rfl)⟩) (fun es => by cases es with | nil => exact .inl rfl | cons _ _ => exact .inr (by simp)) hb⟩

theorem topRigs_holds : Rows.TopRigsSaid :=
  OpenClaim.holds_of_wide 3 Tryd.f3 rfl rfl rfl rfl rfl rfl rfl ⟨rfl, rfl, rfl, rfl, rfl⟩ rfl rfl rfl rfl rfl (by kernel_rfl) Tryd.func3 (by kernel_rfl)
    (of_decide_eq_true (by kernel_rfl)) (by unfold Func.isWrapper; first | (rw [if_pos (by decide +kernel)]; kernel_rfl) | (rw [if_neg (by decide +kernel)]; exact ⟨rfl, rfl⟩))
    (fun os started H enc _ => topRigs_lifted os started H enc)
end Go.Proofs.YteojmhfocdlnoaaDoor
