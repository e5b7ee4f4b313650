/- The safe pressure: plain mathematics. -/
import Derived.Test.YtplhbklfaokjbaaDoorOpensay
namespace Go.Proofs.YtplhbklfaokjbaaDoor
open Go.RowKit

theorem aw_cases (s : Nat) : (awE s = -1 ∧ awN s = 0) ∨ (awE s = 0 ∧ awN s = -1) ∨ (awE s = 1 ∧ awN s = 0) ∨ (awE s = 0 ∧ awN s = 1) ∨ (awE s = 0 ∧ awN s = 0) := by
  unfold awE awN
  repeat' split
  all_goals omega
def puB (v : BedV) (p : Int) (s : Nat) : Nat := (amE v p s).natAbs + (amN v p s).natAbs
theorem pu_conv (v : BedV) {p q : Int} (s : Nat) (hp : 0 ≤ v.pu) (h0 : 0 ≤ q) (h1 : q ≤ p) : puB v q s ≤ puB v 0 s ∨ puB v q s ≤ puB v p s := by
  have a0 : 0 ≤ q * v.pu := Int.mul_nonneg h0 hp
  have a1 : q * v.pu ≤ p * v.pu := Int.mul_le_mul_of_nonneg_right h1 hp
  unfold puB amE amN
  generalize (v.ea - v.wt * v.c 4) * 9810000 = A
  generalize (v.no - v.wt * v.c 5) * 9810000 = C
  rcases aw_cases s with ⟨e1, e2⟩ | ⟨e1, e2⟩ | ⟨e1, e2⟩ | ⟨e1, e2⟩ | ⟨e1, e2⟩
  all_goals
    rw [e1, e2]
    simp only [Int.neg_mul, Int.one_mul, Int.zero_mul, Int.mul_zero, Int.neg_zero, Int.add_zero]
    omega
theorem clB_conv (v : BedV) {p q : Int} (s : Nat) (hp : 0 ≤ v.pu) (h0 : 0 ≤ q) (h1 : q ≤ p) (a : clB v 0 s = true) (b : clB v p s = true) : clB v q s = true := by
  unfold clB at *
  rw [decide_eq_true_iff] at *
  rcases pu_conv v s hp h0 h1 with h | h
  · exact Nat.le_trans (Nat.mul_le_mul_right _ h) a
  · exact Nat.le_trans (Nat.mul_le_mul_right _ h) b
theorem clB_zero (v : BedV) (s t : Nat) : clB v 0 s = clB v 0 t := by
  have h : ∀ s, amE v 0 s = (v.ea - v.wt * v.c 4) * 9810000 ∧ amN v 0 s = (v.no - v.wt * v.c 5) * 9810000 := fun s => by
    unfold amE amN
    simp only [Int.mul_zero, Int.zero_mul, Int.add_zero]
    exact ⟨trivial, trivial⟩
  unfold clB
  rw [(h s).1, (h s).2, (h t).1, (h t).2]

/-- All beds are closed. -/
def tiB (f : Nat → Nat → Int) (n : Nat) (p : Int) (s : Nat) : Bool := decide (∀ k, k < n → clB (bI f n k) p s = true)
theorem tiB_iff {f : Nat → Nat → Int} {n : Nat} {p : Int} {s : Nat} : tiB f n p s = true ↔ ∀ k, k < n → clB (bI f n k) p s = true := decide_eq_true_iff
theorem tiB_off {f : Nat → Nat → Int} {n k : Nat} {p : Int} {s : Nat} (hk : k < n) (h : clB (bI f n k) p s = false) : tiB f n p s = false := by
  cases e : tiB f n p s with
  | false => rfl
  | true => have := tiB_iff.1 e k hk; rw [h] at this; cases this
theorem tiB_conv {f : Nat → Nat → Int} {n : Nat} (hG : GoodC n f) {p q : Int} {s : Nat} (h0 : 0 ≤ q) (h1 : q ≤ p) (a : tiB f n 0 s = true) (b : tiB f n p s = true) : tiB f n q s = true :=
  tiB_iff.2 fun k hk => clB_conv _ s (bI_bd hG (k := k) (by omega)).2.2.2.2.2.2.2.2.1 h0 h1 (tiB_iff.1 a k hk) (tiB_iff.1 b k hk)
theorem tiB_zero (f : Nat → Nat → Int) (n s t : Nat) : tiB f n 0 s = tiB f n 0 t := by
  unfold tiB
  exact decide_eq_decide.2 ⟨fun h k hk => (clB_zero _ t s).trans (h k hk), fun h k hk => (clB_zero _ s t).trans (h k hk)⟩
theorem opL_nil {f : Nat → Nat → Int} {n : Nat} {p : Int} {s : Nat} : opL f n p s n = [] ↔ tiB f n p s = true := by
  rw [tiB_iff]
  unfold opL
  rw [List.filter_eq_nil_iff]
  constructor
  · intro h k hk
    have := h k (List.mem_range.2 hk)
    simpa using this
  · intro h k hk
    simp [h k (List.mem_range.1 hk)]

/-- The last of the numbers up to m that have B. -/
def lastB (B : Nat → Bool) : Nat → Nat
  | 0 => 0
  | m + 1 => if B (m + 1) then m + 1 else lastB B m
theorem lastB_le (B : Nat → Bool) : ∀ m, lastB B m ≤ m
  | 0 => Nat.le_refl _
  | m + 1 => by
    unfold lastB
    split
    · exact Nat.le_refl _
    · exact Nat.le_succ_of_le (lastB_le B m)
theorem lastB_at {B : Nat → Bool} (h0 : B 0 = true) : ∀ m, B (lastB B m) = true
  | 0 => h0
  | m + 1 => by
    unfold lastB
    split
    · assumption
    · exact lastB_at h0 m
theorem lastB_gt {B : Nat → Bool} : ∀ {m i}, lastB B m < i → i ≤ m → B i = false
  | 0, i, h, h' => by unfold lastB at h; omega
  | m + 1, i, h, h' => by
    unfold lastB at h
    by_cases hB : B (m + 1) = true
    · rw [if_pos hB] at h; omega
    · rw [if_neg hB] at h
      rcases Nat.lt_or_ge m i with h2 | h2
      · rw [show i = m + 1 by omega]; simpa using hB
      · exact lastB_gt h h2
/-- The safe pressure from a side, if all beds are closed without a wind. -/
def saN (f : Nat → Nat → Int) (n s : Nat) : Nat := lastB (fun i => tiB f n (i : Int) s) 10000
theorem saN_le (f : Nat → Nat → Int) (n s : Nat) : saN f n s ≤ 10000 := lastB_le _ _
theorem saN_in {f : Nat → Nat → Int} {n s : Nat} (hG : GoodC n f) (h0 : tiB f n 0 s = true) {i : Nat} (hi : i ≤ saN f n s) : tiB f n (i : Int) s = true :=
  tiB_conv hG (by omega) (Int.ofNat_le.2 hi) h0 (lastB_at (B := fun i => tiB f n (i : Int) s) h0 10000)
theorem saN_out {f : Nat → Nat → Int} {n s : Nat} {i : Nat} (hi : saN f n s < i) (h : i ≤ 10000) : tiB f n (i : Int) s = false := lastB_gt (B := fun i => tiB f n (i : Int) s) hi h
end Go.Proofs.YtplhbklfaokjbaaDoor
