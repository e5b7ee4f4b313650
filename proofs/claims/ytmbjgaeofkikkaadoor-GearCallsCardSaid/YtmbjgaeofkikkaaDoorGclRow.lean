/- For every gear, all rigs, every batch, day and loads GearCalls returns true and leaves its arguments as they were: Called, Touched and Taken are as 7.3 says, and a rig may lift nothing when a batch that touches it is called back, and just what it might lift before when the batch does not touch it. Conditions: none beyond the row. -/
import Derived.Test.YtmbjgaeofkikkaaDoorGrw
import Derived.Test.YtmbjgaeofkikkaaDoorLawGca
namespace Go.Proofs.YtmbjgaeofkikkaaDoor
open Go.ChangeShapes Go.WideShapes Go.ChangeAt Go.RowKit Go.Joins

set_option maxRecDepth 100000 in
theorem gearCalls_lifted (os : Os) (started : os.Started) (H : Type) (enc : TypeId × Value → H) :
    ReturnsInHanded {} Tryd.checked os 8 .any (fun w args => (Rows.gearCallsSpec.pre enc Tryd.prog Tryd.f8 [] false w args ∧ laidMetH Tryd.prog laidL w) ∧ sizedMet enc Tryd.prog Tryd.f8 (OpenSpec.ofChange Rows.gearCallsSpec) false w args) (Rows.gearCallsSpec.post enc Tryd.prog Tryd.f8 false true false false) := by
  refine handed_shaped (C := Tryd.checked) (X := fun w _ => laidMetH Tryd.prog laidL w) (fun _ _ _ hh h => h.of_heap hh) Tryd.own started (by kernel_rfl) Tryd.func8
    (ChangeSpec.witness_shaped (enc := enc) (C := Tryd.checked) (os := os) (X := fun w _ => laidMetH Tryd.prog laidL w) false (World.laidAll Tryd.prog os laidL) #[.slice none 0 0, .slice none 0 0, .string ⟨#[]⟩, .int .i64 0, .slice none 0 0] 8 (World.laidAll_os _ _ _) (World.shaped_of_ZipB (by kernel_rfl) (by kernel_rfl)) (by kernel_rfl) (by kernel_rfl) (by kernel_rfl) (all_met os _)) ?_
  intro W base args ds gs before hval0 hW hL _
  have hval : ∀ (j : Nat) t v, Tryd.f8.params[j]? = some t → args[j]? = some v → Value.okWide Tryd.prog W .any base t v := hval0
  have hW' := hW
  obtain ⟨p, q, hA0, hV, rfl, _, _⟩ := hW
  have hA : DataW.TrodAll enc Tryd.prog W 0 (fun _ => true) true Tryd.f8.params.toList args.toList ds p := hA0
  rw [Tryd.params8] at hA hval
  obtain ⟨v0, v1, v2, v3, v4, d0, d1, d2, d3, d4, p0, p1, p2, p3, p4, rfl, rfl, h0, h1, h2, h3, h4⟩ := trodAll_five hA
  obtain ⟨rfl, rfl⟩ := trodVars_none hV
  obtain ⟨a0, n0, c0, gm0, gl0, gd0, gb0, rfl, hc0, hm0, hi0, hs0, ht0⟩ := open_items Tryd.underlying22 Tryd.underlying62 cellsItem rfl rfl rfl rfl (by kernel_rfl) (by kernel_rfl) (by kernel_rfl) (by kernel_rfl) Tryd.underlying9 Tryd.underlying3 Tryd.underlying3 Tryd.underlying9 (hval 0 22 v0 rfl rfl) h0
  obtain ⟨a1, n1, c1, R1, rfl, hc1, hm1, hr1, hs1⟩ := open_rigs Tryd.underlying50 cellsLinks Tryd.underlying23 Tryd.underlying37 cellsLink rfl rfl (by kernel_rfl) (by kernel_rfl) Tryd.underlying9 Tryd.underlying3 (hval 1 50 v1 rfl rfl) h1
  obtain ⟨s2, rfl, _, _, hz2⟩ := Go.ChangeMaps.open_string Tryd.underlying9 (hval 2 9 v2 rfl rfl) h2
  obtain ⟨l2, rfl⟩ : ∃ l : List UInt8, s2 = tx l := ⟨s2.data.toList, by cases s2; simp [tx]⟩
  have hz2 : l2.length ≤ 9223372036854775807 := by have := tx_size l2; unfold maxLen at hz2; omega
  obtain ⟨x30, rfl, _, _, w30⟩ := open_int Tryd.underlying3 (hval 3 3 v3 rfl rfl) h3
  obtain ⟨a4, n4, c4, f4, rfl, hc4, hm4, hi4⟩ := open_nums Tryd.underlying30 Tryd.underlying3 cellsIntw (hval 4 30 v4 rfl rfl) h4
  refine (gearCalls_any a0 n0 c0 gm0 gl0 gd0 gb0 a1 n1 c1 R1 l2 x30 a4 n4 c4 f4 W hi0 hr1 hs1 hi4 (by omega) (by omega) (by omega) hz2 hs0 ht0).mono fun e W' ⟨he, hb⟩ => ?_
  subst he
  exact ⟨_, rfl, law_post Tryd.laidOut hW' rfl (by kernel_rfl) Tryd.underlying4 (by
    intro t ht
    simp [Tryd.params8] at ht
    rcases ht with rfl | rfl | rfl | rfl | rfl <;> exact ⟨by kernel_rfl, of_decide_eq_true (by kernel_rfl)⟩) (fun es => by cases es with | nil => exact .inl rfl | cons _ _ => exact .inr (by simp)) hb⟩

theorem gearCalls_holds : Rows.GearCallsSaid :=
  OpenClaim.holds_of_wide 8 Tryd.f8 rfl rfl rfl rfl rfl rfl rfl ⟨rfl, rfl, rfl, rfl, rfl⟩ rfl rfl rfl rfl rfl (by kernel_rfl) Tryd.func8 (by kernel_rfl)
    (of_decide_eq_true (by kernel_rfl)) (by unfold Func.isWrapper; first | (rw [if_pos (by decide +kernel)]; kernel_rfl) | (rw [if_neg (by decide +kernel)]; exact ⟨rfl, rfl⟩))
    (fun os started H enc _ => gearCalls_lifted os started H enc)
end Go.Proofs.YtmbjgaeofkikkaaDoor
