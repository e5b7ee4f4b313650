/- Kept in the reference. -/
import Derived.Test.YtlnlgboeohfpdaaTwWdd
import Derived.Test.YtlnlgboeohfpdaaTwWdt
import Derived.Deep.AppendLies
import Derived.OwnWalk
namespace Go.Proofs.Ytlnlgboeohfpdaa.Tw
open Go.Proofs.Ytlnlgboeohfpdaa
open Go.RowKit
attribute [local go_sem] After.cell After.frozen After.lt After.le After.ne After.ne' After.set_eq After.size_set After.lt_add

theorem cs_apart {n : Nat} {fr to lo hi : Nat → Int} (h : CsOk n fr to lo hi) : ∀ k, k < n → ∀ j, j < k → to j ≤ fr k
  | 0, _, j, hj => absurd hj (by omega)
  | k + 1, hk, j, hj => by
    have h1 : to k ≤ fr (k + 1) := (h (k + 1) hk).1
    rcases Nat.lt_or_ge j k with hjk | hjk
    · have h2 := cs_apart h k (by omega) j hjk
      have h3 := (h k (by omega)).2.1
      omega
    · obtain rfl : j = k := by omega
      exact h1
theorem cs_one {n : Nat} {fr to lo hi : Nat → Int} (h : CsOk n fr to lo hi) {m : Int} {k j : Nat} (hk : k < n) (hj : j < n) (h1 : CIn fr to m k) (h2 : CIn fr to m j) : k = j := by
  unfold CIn at h1 h2
  rcases Nat.lt_trichotomy k j with h3 | h3 | h3
  · have := cs_apart h j hj k h3; omega
  · exact h3
  · have := cs_apart h k hk j h3; omega
/-- A minute whose reading is not as its cast says. -/
def BrkP (n : Nat) (fr to lo hi f : Nat → Int) (i : Nat) : Prop := ∃ k, k < n ∧ CIn fr to i k ∧ 0 ≤ f i ∧ (f i < lo k ∨ hi k < f i)
noncomputable def brk (n : Nat) (fr to lo hi f : Nat → Int) (i : Nat) : Bool := @decide (BrkP n fr to lo hi f i) (Classical.propDecidable _)
theorem brk_iff {n : Nat} {fr to lo hi f : Nat → Int} {i : Nat} : brk n fr to lo hi f i = true ↔ BrkP n fr to lo hi f i := by
  unfold brk
  exact @decide_eq_true_iff _ (Classical.propDecidable _)
theorem brk_in {n : Nat} {fr to lo hi f : Nat → Int} {i k : Nat} (h : CsOk n fr to lo hi) (hk : k < n) (h1 : CIn fr to i k) : brk n fr to lo hi f i = (decide (0 ≤ f i) && (decide (f i < lo k) || decide (hi k < f i))) := by
  rw [Bool.eq_iff_iff, brk_iff]
  simp only [Bool.and_eq_true, Bool.or_eq_true, decide_eq_true_eq]
  constructor
  · rintro ⟨j, hj, h2, h3, h4⟩
    obtain rfl := cs_one h hk hj h1 h2
    exact ⟨h3, h4⟩
  · rintro ⟨h3, h4⟩
    exact ⟨k, hk, h1, h3, h4⟩
theorem brk_out {n : Nat} {fr to lo hi f : Nat → Int} {i : Nat} (h : ∀ k, k < n → ¬ CIn fr to i k) : brk n fr to lo hi f i = false := by
  rw [Bool.eq_false_iff]
  intro hb
  obtain ⟨k, hk, h1, _⟩ := brk_iff.1 hb
  exact h k hk h1
/-- A row of minutes. -/
def mxs (l : List Nat) : List Value := l.map fun k : Nat => .int .i64 k
theorem mxs_snoc (l : List Nat) (k : Nat) : mxs (l ++ [k]) = mxs l ++ [.int .i64 k] := by simp [mxs]
theorem mxs_len (l : List Nat) : (mxs l).length = l.length := by simp [mxs]
theorem first_in (fr to : Nat → Int) (m : Int) : ∀ n : Nat, (∀ k, k < n → ¬ CIn fr to m k) ∨ ∃ k, k < n ∧ CIn fr to m k ∧ ∀ j, j < k → ¬ CIn fr to m j
  | 0 => .inl fun k hk => absurd hk (by omega)
  | n + 1 => by
    rcases first_in fr to m n with h | ⟨k, h1, h2, h3⟩
    · by_cases hn : CIn fr to m n
      · exact .inr ⟨n, by omega, hn, h⟩
      · left
        intro k hk
        rcases Nat.lt_or_ge k n with h1 | h1
        · exact h k h1
        · obtain rfl : k = n := by omega
          exact hn
    · exact .inr ⟨k, by omega, h2, h3⟩
noncomputable def kpE (n : Nat) (fr to lo hi : Nat → Int) (m : Nat) (f : Nat → Int) : Int := if decide (GoodCs n fr to lo hi) && decide (GoodG m f) then 0 else 1
noncomputable def kpL (n : Nat) (fr to lo hi : Nat → Int) (m : Nat) (f : Nat → Int) : List Nat := if decide (GoodCs n fr to lo hi) && decide (GoodG m f) then fl (brk n fr to lo hi f) m else []
end Go.Proofs.Ytlnlgboeohfpdaa.Tw
