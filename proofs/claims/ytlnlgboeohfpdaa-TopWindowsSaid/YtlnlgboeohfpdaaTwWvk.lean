/- In kept gusts no gust of a sure window is the mark or more; what the top's law needs. -/
import Derived.Test.YtlnlgboeohfpdaaTwWvr
namespace Go.Proofs.Ytlnlgboeohfpdaa.Tw
open Go.Proofs.Ytlnlgboeohfpdaa

theorem fl_nil {p : Nat → Bool} : ∀ {n : Nat}, (fl p n).length = 0 → ∀ i, i < n → p i = false
  | 0, _, i, hi => absurd hi (by omega)
  | n + 1, h, i, hi => by
    rw [fl_succ] at h
    cases hp : p n
    · rw [hp, if_neg (by simp)] at h
      rcases Nat.lt_or_ge i n with h1 | h1
      · exact fl_nil h i h1
      · obtain rfl : i = n := by omega
        exact hp
    · rw [hp, if_pos rfl] at h
      simp at h
/-- In kept gusts no gust of a sure window is the mark or more. -/
theorem kept_below {n : Nat} {fr to lo hi : Nat → Int} {m : Nat} {f : Nat → Int} {mark k v : Int} (hE : kpE n fr to lo hi m f = 0) (hL : (kpL n fr to lo hi m f).length = 0) (hW : WnS n fr to lo hi mark true k 0 m 0 v) :
    0 ≤ v ∧ v + k ≤ m ∧ 1 ≤ k ∧ k ≤ 10000 ∧ ∀ i : Nat, v ≤ i → (i : Int) < v + k → f i < mark := by
  unfold kpE at hE
  unfold kpL at hL
  cases hg : decide (GoodCs n fr to lo hi) && decide (GoodG m f)
  · rw [hg] at hE; simp at hE
  rw [hg, if_pos rfl] at hL
  simp only [Bool.and_eq_true, decide_eq_true_eq] at hg
  obtain ⟨hc, hgg⟩ := hg
  unfold WnS at hW
  rw [decide_eq_true hc, if_pos rfl] at hW
  cases hr : decide (RngOk mark k 0 m)
  · rw [hr, if_neg (by simp)] at hW
    exact absurd hW.1 (by omega)
  rw [hr, if_pos rfl] at hW
  obtain ⟨h1, h2, h3⟩ := of_decide_eq_true hr
  unfold Btw at h1 h2
  rcases hW with ⟨_, a1, a2, a3, _⟩ | ⟨h8, _⟩
  · refine ⟨a1, a2, h2.1, h2.2, fun i p q => ?_⟩
    obtain ⟨j, hj, h4, h5⟩ := fnB_iff.1 (a3 i p q)
    have hb := fl_nil hL i (by omega)
    rw [brk_in hc.1 hj h4] at hb
    by_cases h6 : 0 ≤ f i
    · rw [decide_eq_true h6] at hb
      simp at hb
      omega
    · omega
  · exact absurd h8 (by omega)
end Go.Proofs.Ytlnlgboeohfpdaa.Tw
