/- Kept in the program. -/
import Derived.Test.YtfmoedlnjlkiiaaDoorWde
import Derived.Test.YtfmoedlnjlkiiaaDoorWdp
namespace Go.Proofs.YtfmoedlnjlkiiaaDoor
open Go.RowKit
attribute [local go_sem] After.cell After.frozen After.lt After.le After.ne After.ne' After.set_eq After.size_set After.lt_add

theorem fl_gap {p : Nat → Bool} {s : Nat} : ∀ t, s ≤ t → (∀ i, s ≤ i → i < t → p i = false) → fl p t = fl p s
  | 0, h, _ => by
    obtain rfl : s = 0 := by omega
    rfl
  | t + 1, h, hp => by
    rcases Nat.lt_or_ge t s with h1 | h1
    · obtain rfl : s = t + 1 := by omega
      rfl
    · rw [fl_succ, hp t h1 (by omega), if_neg (by simp)]
      exact fl_gap t h1 fun i h2 h3 => hp i h2 (by omega)
theorem la_ge {n : Nat} {fr to lo hi : Nat → Int} (h : CsOk n fr to lo hi) {k j : Nat} (hk : k ≤ n) (hj : j < k) : to j ≤ laC to k := by
  obtain ⟨k, rfl⟩ : ∃ k', k = k' + 1 := ⟨k - 1, by omega⟩
  show to j ≤ to k
  rcases Nat.lt_or_ge j k with h1 | h1
  · have := cs_apart h k (by omega) j h1
    have := (h k (by omega)).2.1
    omega
  · obtain rfl : j = k := by omega
    exact Int.le_refl _
/-- Between two casts no minute is broken. -/
theorem brk_gap {n : Nat} {fr to lo hi f : Nat → Int} (h : CsOk n fr to lo hi) {k : Nat} (hk : k ≤ n) {i : Nat} (h1 : laC to k ≤ (i : Int)) (h2 : k < n → (i : Int) < fr k) : brk n fr to lo hi f i = false :=
  brk_out fun j hj hc => by
    unfold CIn at hc
    rcases Nat.lt_or_ge j k with hjk | hjk
    · have := la_ge h hk hjk; omega
    · have h3 := h2 (by omega)
      rcases Nat.lt_or_ge k j with hkj | hkj
      · have := cs_apart h j hj k hkj
        have := (h k (by omega)).2.1
        omega
      · obtain rfl : j = k := by omega
        omega
/-- The broken minutes before the k-th cast's end. -/
noncomputable def kpT (n : Nat) (fr to lo hi f : Nat → Int) (m k : Nat) : List Nat := fl (brk n fr to lo hi f) (min (laC to k).toNat m)
theorem kpT_start {n : Nat} {fr to lo hi f : Nat → Int} (h : CsOk n fr to lo hi) {k m : Nat} (hk : k < n) : kpT n fr to lo hi f m k = fl (brk n fr to lo hi f) (min (fr k).toNat m) := by
  unfold kpT
  have h1 : laC to k ≤ fr k := (h k hk).1
  refine (fl_gap _ (by omega) fun i h2 h3 => brk_gap h (by omega : k ≤ n) (by omega) fun _ => by omega).symm
theorem kpT_end {n : Nat} {fr to lo hi f : Nat → Int} (h : CsOk n fr to lo hi) {m : Nat} : kpT n fr to lo hi f m n = fl (brk n fr to lo hi f) m := by
  unfold kpT
  refine (fl_gap _ (by omega) fun i h2 h3 => brk_gap h (Nat.le_refl n) (by omega) fun h => absurd h (by omega)).symm
theorem kpT_skip {n : Nat} {fr to lo hi f : Nat → Int} (h : CsOk n fr to lo hi) {k m : Nat} (hk : k < n) (hm : (m : Int) ≤ fr k) : kpT n fr to lo hi f m (k + 1) = kpT n fr to lo hi f m k := by
  rw [kpT_start h hk]
  have := (h k hk).2.1
  unfold kpT
  show fl _ (min (to k).toNat m) = _
  rw [Nat.min_eq_right (by omega), Nat.min_eq_right (by omega)]
end Go.Proofs.YtfmoedlnjlkiiaaDoor
