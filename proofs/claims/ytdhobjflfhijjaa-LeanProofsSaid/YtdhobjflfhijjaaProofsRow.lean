/- For every line, slice of points and three indexes LeanProofs returns true and leaves its arguments as they were: Proof and Proves answer as the reference does, what Proof finds proves the nearest line, and a line with a proof is the nearest one. Conditions: none beyond the row. -/
import Derived.Test.YtdhobjflfhijjaaOpen
import Derived.Test.YtdhobjflfhijjaaLawProofs
namespace Go.Proofs.Ytdhobjflfhijjaa
open Go.ChangeShapes Go.WideShapes Go.ChangeAt Go.RowKit Go.Joins

set_option maxRecDepth 100000 in
theorem leanProofs_lifted (os : Os) (started : os.Started) (H : Type) (enc : TypeId × Value → H) :
    ReturnsInHanded {} Try.checked os 9 .any (Rows.leanProofsSpec.pre6 enc Try.prog Try.f9 Rows.leanProofsRow.domain false) (Rows.leanProofsSpec.post enc Try.prog Try.f9 false true false false) := by
  refine returnsInHanded_of_change (C := Try.checked) Try.own started (by kernel_rfl) Try.func9
    (ChangeSpec.witness6 (enc := enc) (C := Try.checked) false ⟨#[], #[.agg #[.int .i64 0, .int .i64 0, .int .i64 0], .slice none 0 0, .agg #[.int .i64 0, .int .i64 0, .int .i64 0]], []⟩ 8 (by kernel_rfl) (by kernel_rfl) (by kernel_rfl) (by kernel_rfl)) ?_
  intro W base args ds gs before hval0 hW _ _
  have hval : ∀ (j : Nat) t v, Try.f9.params[j]? = some t → args[j]? = some v → Value.okWide Try.prog W .any base t v := hval0
  have hW' := hW
  obtain ⟨p, q, hA0, hV, rfl, _, _⟩ := hW
  have hA : DataW.TrodAll enc Try.prog W 0 (fun _ => true) true Try.f9.params.toList args.toList ds p := hA0
  rw [Try.params9] at hA hval
  obtain ⟨v0, v1, v2, d0, d1, d2, p0, p1, p2, rfl, rfl, rfl, h0, h1, h2⟩ := trodAll_three hA
  obtain ⟨rfl, rfl⟩ := trodVars_none hV
  obtain ⟨x00, x01, x02, rfl, w00, w01, w02⟩ := open_val3 Try.underlying35 (by kernel_rfl) Try.underlying3 Try.underlying3 Try.underlying3 cellsLine (hval 0 35 v0 rfl rfl) h0
  obtain ⟨l1, hl1, hw1⟩ := open_pts (hval 1 24 v1 rfl rfl) h1
  obtain ⟨x20, x21, x22, rfl, w20, w21, w22⟩ := open_arr3 Try.underlying57 Try.underlying3 cellsArr3 cellsInt (hval 2 57 v2 rfl rfl) h2
  refine (leanProofs_any x00 x01 x02 x20 x21 x22 v1 l1 W hl1).mono fun e W' ⟨he, hb⟩ => ?_
  subst he
  exact ⟨_, rfl, law_post Try.laidOut hW' rfl (by kernel_rfl) Try.underlying4 (by
    intro t ht
    simp [Try.params9] at ht
    rcases ht with rfl | rfl | rfl <;> exact ⟨by kernel_rfl, of_decide_eq_true (by kernel_rfl)⟩) (fun es => by cases es with | nil => exact .inl rfl | cons _ _ => exact .inr (by simp)) hb⟩

theorem leanProofs_holds : Rows.LeanProofsSaid :=
  OpenClaim.holds_of_wide 9 Try.f9 rfl rfl rfl rfl rfl rfl rfl ⟨rfl, rfl, rfl, rfl, rfl⟩ rfl rfl rfl rfl rfl (by kernel_rfl) Try.func9 (by kernel_rfl)
    (of_decide_eq_true (by kernel_rfl)) (by unfold Func.isWrapper; first | (rw [if_pos (by decide +kernel)]; kernel_rfl) | (rw [if_neg (by decide +kernel)]; exact ⟨rfl, rfl⟩))
    (fun os started H enc _ => leanProofs_lifted os started H enc)
end Go.Proofs.Ytdhobjflfhijjaa
