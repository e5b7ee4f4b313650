/- For every rule, forecast, gusts and two numbers TopWindows returns true and leaves its arguments as they were: in gusts without gaps that a forecast has kept, work that goes goes on through a sure window, and goes again in it behind the calm minutes. Conditions: none beyond the row. -/
import Derived.Test.YtlnlgboeohfpdaaTwOpen
import Derived.Test.YtlnlgboeohfpdaaTwLaw
namespace Go.Proofs.Ytlnlgboeohfpdaa
open Go.Proofs.Ytlnlgboeohfpdaa.Tw
open Go.ChangeShapes Go.WideShapes Go.ChangeAt Go.RowKit Go.Joins

set_option maxRecDepth 100000 in
theorem topWindows_lifted (os : Os) (started : os.Started) (H : Type) (enc : TypeId × Value → H) :
    ReturnsInHanded {} Try.checked os 3 .any (Rows.topWindowsSpec.pre6 enc Try.prog Try.f3 Rows.topWindowsRow.domain false) (Rows.topWindowsSpec.post enc Try.prog Try.f3 false true false false) := by
  refine returnsInHanded_of_change (C := Try.checked) Try.own started (by kernel_rfl) Try.func3
    (ChangeSpec.witness6 (enc := enc) (C := Try.checked) false ⟨#[], #[.agg #[.int .i64 0, .int .i64 0, .int .i64 0], .slice none 0 0, .slice none 0 0, .int .i64 0, .int .i64 0], []⟩ 8 (by kernel_rfl) (by kernel_rfl) (by kernel_rfl) (by kernel_rfl)) ?_
  intro W base args ds gs before hval0 hW _ _
  have hval : ∀ (j : Nat) t v, Try.f3.params[j]? = some t → args[j]? = some v → Value.okWide Try.prog W .any base t v := hval0
  have hW' := hW
  obtain ⟨p, q, hA0, hV, rfl, _, _⟩ := hW
  have hA : DataW.TrodAll enc Try.prog W 0 (fun _ => true) true Try.f3.params.toList args.toList ds p := hA0
  rw [Try.params3] at hA hval
  obtain ⟨v0, v1, v2, v3, v4, d0, d1, d2, d3, d4, p0, p1, p2, p3, p4, rfl, rfl, h0, h1, h2, h3, h4⟩ := trodAll_five hA
  obtain ⟨rfl, rfl⟩ := trodVars_none hV
  obtain ⟨x00, x01, x02, rfl, w00, w01, w02⟩ := open_val3 Try.underlying23 (by kernel_rfl) Try.underlying3 Try.underlying3 Try.underlying3 cellsRule (hval 0 23 v0 rfl rfl) h0
  obtain ⟨a1, n1, c1, fr1, to1, lo1, hi1, rfl, hm1, hc1⟩ := open_casts Try.underlying24 Try.underlying43 cellsCast rfl (by kernel_rfl) (hval 1 24 v1 rfl rfl) h1
  obtain ⟨n2, f2, ⟨a2, c2, rfl, hl2, hm2, hi2⟩⟩ := open_ins Try.underlying25 Try.underlying3 cellsIntw (hval 2 25 v2 rfl rfl) h2
  obtain ⟨x30, rfl, _, _, w30⟩ := open_int Try.underlying3 (hval 3 3 v3 rfl rfl) h3
  obtain ⟨x40, rfl, _, _, w40⟩ := open_int Try.underlying3 (hval 4 3 v4 rfl rfl) h4
  refine (topWindows_any x00 x01 x02 a1 n1 c1 fr1 to1 lo1 hi1 a2 n2 c2 f2 x30 x40 W hc1 hi2 hm1 (by omega)).mono fun e W' ⟨he, hb⟩ => ?_
  subst he
  exact ⟨_, rfl, law_post Try.laidOut hW' rfl (by kernel_rfl) Try.underlying4 (by
    intro t ht
    simp [Try.params3] at ht
    rcases ht with rfl | rfl | rfl | rfl <;> exact ⟨by kernel_rfl, of_decide_eq_true (by kernel_rfl)⟩) (fun es => by cases es with | nil => exact .inl rfl | cons _ _ => exact .inr (by simp)) hb⟩

theorem topWindows_holds : Rows.TopWindowsSaid :=
  OpenClaim.holds_of_wide 3 Try.f3 rfl rfl rfl rfl rfl rfl rfl ⟨rfl, rfl, rfl, rfl, rfl⟩ rfl rfl rfl rfl rfl (by kernel_rfl) Try.func3 (by kernel_rfl)
    (of_decide_eq_true (by kernel_rfl)) (by unfold Func.isWrapper; first | (rw [if_pos (by decide +kernel)]; kernel_rfl) | (rw [if_neg (by decide +kernel)]; exact ⟨rfl, rfl⟩))
    (fun os started H enc _ => topWindows_lifted os started H enc)
end Go.Proofs.Ytlnlgboeohfpdaa

