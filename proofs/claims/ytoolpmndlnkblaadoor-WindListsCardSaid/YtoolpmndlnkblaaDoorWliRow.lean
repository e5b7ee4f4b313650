/- For every two lists of gusts, rules and two numbers WindLists returns true and leaves its arguments as they were: Strictest, Highest, Missing and Joined answer as the reference does. Conditions: none beyond the row. -/
import Derived.Test.YtoolpmndlnkblaaDoorLaidz
import Derived.Test.YtoolpmndlnkblaaDoorLawWli
namespace Go.Proofs.YtoolpmndlnkblaaDoor
open Go.ChangeShapes Go.WideShapes Go.ChangeAt Go.RowKit Go.Joins

set_option maxRecDepth 100000 in
theorem windLists_lifted (os : Os) (started : os.Started) (H : Type) (enc : TypeId × Value → H) :
    ReturnsInHanded {} Tryd.checked os 7 .any (fun w args => (Rows.windListsSpec.pre enc Tryd.prog Tryd.f7 [] false w args ∧ laidMetH Tryd.prog laidL w) ∧ sizedMet enc Tryd.prog Tryd.f7 (OpenSpec.ofChange Rows.windListsSpec) false w args) (Rows.windListsSpec.post enc Tryd.prog Tryd.f7 false true false false) := by
  refine handed_shaped (C := Tryd.checked) (X := fun w _ => laidMetH Tryd.prog laidL w) (fun _ _ _ hh h => h.of_heap hh) Tryd.own started (by kernel_rfl) Tryd.func7
    (ChangeSpec.witness_shaped (enc := enc) (C := Tryd.checked) (os := os) (X := fun w _ => laidMetH Tryd.prog laidL w) false (World.laidAll Tryd.prog os laidL) #[.slice none 0 0, .slice none 0 0, .slice none 0 0, .int .i64 0, .int .i64 0] 8 (World.laidAll_os _ _ _) (World.shaped_of_ZipB (by kernel_rfl) (by kernel_rfl)) (by kernel_rfl) (by kernel_rfl) (by kernel_rfl) (all_met os _)) ?_
  intro W base args ds gs before hval0 hW hL _
  have hval : ∀ (j : Nat) t v, Tryd.f7.params[j]? = some t → args[j]? = some v → Value.okWide Tryd.prog W .any base t v := hval0
  have hW' := hW
  obtain ⟨p, q, hA0, hV, rfl, _, _⟩ := hW
  have hA : DataW.TrodAll enc Tryd.prog W 0 (fun _ => true) true Tryd.f7.params.toList args.toList ds p := hA0
  rw [Tryd.params7] at hA hval
  obtain ⟨v0, v1, v2, v3, v4, d0, d1, d2, d3, d4, p0, p1, p2, p3, p4, rfl, rfl, h0, h1, h2, h3, h4⟩ := trodAll_five hA
  obtain ⟨rfl, rfl⟩ := trodVars_none hV
  obtain ⟨n0, f0, ⟨a0, c0, rfl, hl0, hm0, hi0⟩⟩ := open_ins Tryd.underlying24 Tryd.underlying3 cellsIntw (hval 0 24 v0 rfl rfl) h0
  obtain ⟨n1, f1, ⟨a1, c1, rfl, hl1, hm1, hi1⟩⟩ := open_ins Tryd.underlying24 Tryd.underlying3 cellsIntw (hval 1 24 v1 rfl rfl) h1
  obtain ⟨a2, n2, c2, rs2, rg2, rc2, rfl, hm2, hi2⟩ := open_rules Tryd.underlying48 Tryd.underlying23 cellsRule rfl (by kernel_rfl) (hval 2 48 v2 rfl rfl) h2
  obtain ⟨x30, rfl, _, _, w30⟩ := open_int Tryd.underlying3 (hval 3 3 v3 rfl rfl) h3
  obtain ⟨x40, rfl, _, _, w40⟩ := open_int Tryd.underlying3 (hval 4 3 v4 rfl rfl) h4
  have hS := stw_of hL
  refine (windLists_any a0 n0 c0 f0 a1 n1 c1 f1 a2 n2 c2 rs2 rg2 rc2 x30 x40 W hi0 hi1 hi2 hl0 (by omega) (by omega) hm2 hS).mono fun e W' ⟨he, hb⟩ => ?_
  subst he
  exact ⟨_, rfl, law_post Tryd.laidOut hW' rfl (by kernel_rfl) Tryd.underlying4 (by
    intro t ht
    simp [Tryd.params7] at ht
    rcases ht with rfl | rfl | rfl <;> exact ⟨by kernel_rfl, of_decide_eq_true (by kernel_rfl)⟩) (fun es => by cases es with | nil => exact .inl rfl | cons _ _ => exact .inr (by simp)) hb⟩

theorem windLists_holds : Rows.WindListsSaid :=
  OpenClaim.holds_of_wide 7 Tryd.f7 rfl rfl rfl rfl rfl rfl rfl ⟨rfl, rfl, rfl, rfl, rfl⟩ rfl rfl rfl rfl rfl (by kernel_rfl) Tryd.func7 (by kernel_rfl)
    (of_decide_eq_true (by kernel_rfl)) (by unfold Func.isWrapper; first | (rw [if_pos (by decide +kernel)]; kernel_rfl) | (rw [if_neg (by decide +kernel)]; exact ⟨rfl, rfl⟩))
    (fun os started H enc _ => windLists_lifted os started H enc)
end Go.Proofs.YtoolpmndlnkblaaDoor
