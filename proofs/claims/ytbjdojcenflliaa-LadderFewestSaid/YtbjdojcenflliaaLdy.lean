/- What one can come to, as mathematics: the highest place, and heights that prove. -/
import Derived.Test.YtbjdojcenflliaaLdz
namespace Go.Proofs.Ytbjdojcenflliaa
open Go.RowKit

/-- The highest place and how high the next may be, when the first k places are seen. -/
def hiS (h : Nat → Int) (u : Nat → Bool) (fi st : Int) : Nat → Int × Int
  | 0 => (0, fi)
  | k + 1 => if u k = true ∧ h k ≤ (hiS h u fi st k).2 then (h k, max (hiS h u fi st k).2 (h k + st)) else hiS h u fi st k
/-- One comes to a place. -/
inductive Rc (h : Nat → Int) (u : Nat → Bool) (N : Nat) (fi st : Int) : Nat → Prop
  | first {k : Nat} : k < N → u k = true → h k ≤ fi → Rc h u N fi st k
  | next {j k : Nat} : Rc h u N fi st j → j < k → k < N → u k = true → h k ≤ h j + st → Rc h u N fi st k
section
variable {h : Nat → Int} {u : Nat → Bool} {N : Nat} {fi st la : Int}
theorem Rc.lt {k : Nat} (hr : Rc h u N fi st k) : k < N := by cases hr <;> assumption
theorem Rc.us {k : Nat} (hr : Rc h u N fi st k) : u k = true := by cases hr <;> assumption
theorem ch_rc : ∀ (D : List Nat) (b : Int) (i : Nat), Ch h u N st la b i D → (∀ k ∈ upT h u N b i, Rc h u N fi st k) → ∃ k, Rc h u N fi st k ∧ la ≤ h k
  | [], _, _, hc, _ => hc.elim
  | k :: r, b, i, hc, hR => by
    have hk := hR k hc.1
    rcases hc.2 with ⟨_, h2⟩ | ⟨_, h2⟩
    · exact ⟨k, hk, h2⟩
    · refine ch_rc r _ _ h2 fun k' hk' => ?_
      have := upT_of hk'
      exact .next hk (by omega) this.2.1 this.2.2.2 this.2.2.1
theorem rc_ch (hs : ∀ i j, i < j → j < N → h i < h j) {k : Nat} (hr : Rc h u N fi st k) : ∀ r : List Nat, ((r = [] ∧ la ≤ h k) ∨ (r ≠ [] ∧ Ch h u N st la (h k + st) (k + 1) r)) → ∃ D, Ch h u N st la fi 0 D := by
  induction hr with
  | @first k h1 h2 h3 => exact fun r hq => ⟨k :: r, upT_has hs k 0 k (by omega) (by omega) h1 h3 h2, hq⟩
  | @next j k _ h2 h3 h4 h5 ih => exact fun r hq => ih (k :: r) (.inr ⟨by simp, upT_has hs k (j + 1) k (by omega) (by omega) h3 h5 h4, hq⟩)
theorem rc_ls (hs : ∀ i j, i < j → j < N → h i < h j) : lsL (ctN h u N st la) (upT h u N fi 0) ≠ 0 ↔ ∃ k, Rc h u N fi st k ∧ la ≤ h k := by
  constructor
  · intro hl
    obtain ⟨n, hn⟩ : ∃ n, lsL (ctN h u N st la) (upT h u N fi 0) = n + 1 := ⟨_, (Nat.succ_pred_eq_of_ne_zero hl).symm⟩
    refine ch_rc _ _ _ (fs_right n fi 0 hn).1 fun k hk => ?_
    have := upT_of hk
    exact .first this.2.1 this.2.2.2 this.2.2.1
  · rintro ⟨k, hr, hl⟩
    obtain ⟨D, hD⟩ := rc_ch (la := la) hs hr [] (.inl ⟨rfl, hl⟩)
    exact (ch_ls hD).1
theorem fw_nil : fwL h u N fi st la = [] ↔ lsL (ctN h u N st la) (upT h u N fi 0) = 0 := by
  unfold fwL
  cases hl : lsL (ctN h u N st la) (upT h u N fi 0) with
  | zero => exact ⟨fun _ => rfl, fun _ => rfl⟩
  | succ n =>
    have := (fs_right n fi 0 hl).2
    exact ⟨fun e => by rw [e] at this; simp at this, fun e => by cases e⟩
theorem hiS_all (hs : ∀ i j, i < j → j < N → h i < h j) : ∀ k, k ≤ N → (∀ j, j < k → Rc h u N fi st j → h j ≤ (hiS h u fi st k).1 ∧ h j + st ≤ (hiS h u fi st k).2) ∧ ((hiS h u fi st k).1 = 0 ∨ ∃ j, j < k ∧ Rc h u N fi st j ∧ h j = (hiS h u fi st k).1) ∧
    ((hiS h u fi st k).2 = fi ∨ ∃ j, j < k ∧ Rc h u N fi st j ∧ (hiS h u fi st k).2 = h j + st) ∧ fi ≤ (hiS h u fi st k).2
  | 0, _ => ⟨fun j hj => absurd hj (by omega), .inl rfl, .inl rfl, Int.le_refl _⟩
  | k + 1, hk => by
    obtain ⟨i1, i2, i3, i4⟩ := hiS_all hs k (by omega)
    have hrc : Rc h u N fi st k ↔ u k = true ∧ h k ≤ (hiS h u fi st k).2 := by
      constructor
      · intro hr
        refine ⟨hr.us, ?_⟩
        cases hr with
        | first h1 h2 h3 => omega
        | next h1 h2 h3 h4 h5 => have := (i1 _ h2 h1).2; omega
      · rintro ⟨h1, h2⟩
        rcases i3 with e | ⟨j, hj, hr, e⟩
        · exact .first (by omega) h1 (by omega)
        · exact .next hr hj (by omega) h1 (by omega)
    by_cases hq : u k = true ∧ h k ≤ (hiS h u fi st k).2
    · have e : hiS h u fi st (k + 1) = (h k, max (hiS h u fi st k).2 (h k + st)) := if_pos hq
      rw [e]
      refine ⟨fun j hj hr => ?_, .inr ⟨k, by omega, hrc.2 hq, rfl⟩, ?_, by simp only; omega⟩
      · by_cases ej : j = k
        · subst ej; exact ⟨Int.le_refl _, by simp only; omega⟩
        · have := hs j k (by omega) (by omega)
          have := (i1 j (by omega) hr).2
          exact ⟨by simp only; omega, by simp only; omega⟩
      · simp only
        rcases Int.le_total (h k + st) (hiS h u fi st k).2 with q | q
        · rw [Int.max_eq_left q]
          rcases i3 with e2 | ⟨j, hj, hr, e2⟩
          · exact .inl e2
          · exact .inr ⟨j, by omega, hr, e2⟩
        · rw [Int.max_eq_right q]
          exact .inr ⟨k, by omega, hrc.2 hq, rfl⟩
    · have e : hiS h u fi st (k + 1) = hiS h u fi st k := if_neg hq
      rw [e]
      refine ⟨fun j hj hr => ?_, ?_, ?_, i4⟩
      · by_cases ej : j = k
        · subst ej; exact absurd (hrc.1 hr) hq
        · exact i1 j (by omega) hr
      · rcases i2 with e2 | ⟨j, hj, hr, e2⟩
        · exact .inl e2
        · exact .inr ⟨j, by omega, hr, e2⟩
      · rcases i3 with e2 | ⟨j, hj, hr, e2⟩
        · exact .inl e2
        · exact .inr ⟨j, by omega, hr, e2⟩
/-- There is a right list exactly if the highest place is high enough. -/
theorem hi_pass (hs : ∀ i j, i < j → j < N → h i < h j) (hp : ∀ k, k < N → 1 ≤ h k) : (0 < (hiS h u fi st N).1 ∧ la ≤ (hiS h u fi st N).1) ↔ fwL h u N fi st la ≠ [] := by
  rw [Ne, fw_nil, ← Ne, rc_ls hs]
  obtain ⟨i1, i2, -, -⟩ := hiS_all (fi := fi) (st := st) (u := u) hs N (Nat.le_refl _)
  constructor
  · rintro ⟨h1, h2⟩
    rcases i2 with e | ⟨j, _, hr, e⟩
    · omega
    · exact ⟨j, hr, by omega⟩
  · rintro ⟨k, hr, hl⟩
    have := (i1 k hr.lt hr).1
    have := hp k hr.lt
    exact ⟨by omega, by omega⟩
end
/-- A height proves that there are no right dogs. -/
def PvP (hg : Nat → Int) (sd : Nat → Bool) (n : Nat) (fi ga tp ht : Int) : Prop := Bt3 ht 0 200000 ∧ (0 < ht → ht + ga < tp) ∧ ∀ k, k < n → ¬ (sd k = true ∧ ht < hg k ∧ (hg k ≤ fi ∨ (0 < ht ∧ hg k ≤ ht + ga)))
instance (hg : Nat → Int) (sd : Nat → Bool) (n : Nat) (fi ga tp ht : Int) : Decidable (PvP hg sd n fi ga tp ht) := by unfold PvP; infer_instance
theorem pv_none {hg : Nat → Int} {sd : Nat → Bool} {n : Nat} {fi ga tp ht : Int} (hs : ∀ i j, i < j → j < n → hg i < hg j) (hp : ∀ k, k < n → 1 ≤ hg k) (hv : PvP hg sd n fi ga tp ht) : fwL hg sd n fi ga (tp - ga) = [] := by
  rw [fw_nil]
  refine Classical.byContradiction fun hl => ?_
  obtain ⟨k, hr, hk⟩ := (rc_ls hs).1 hl
  obtain ⟨h1, h2, h3⟩ := hv
  have all : ∀ k, Rc hg sd n fi ga k → hg k ≤ ht := fun k hr => by
    induction hr with
    | @first k q1 q2 q3 =>
      refine Classical.byContradiction fun q => h3 k q1 ⟨q2, by omega, .inl q3⟩
    | @next j k q1 q2 q3 q4 q5 ih =>
      have := hp j q1.lt
      refine Classical.byContradiction fun q => h3 k q3 ⟨q4, by omega, .inr ⟨by omega, by omega⟩⟩
  have a1 := all k hr
  have a2 := hp k hr.lt
  have := h2 (by omega)
  omega
theorem stuck_pv {hg : Nat → Int} {sd : Nat → Bool} {n : Nat} {fi ga tp : Int} (hs : ∀ i j, i < j → j < n → hg i < hg j) (hp : ∀ k, k < n → 1 ≤ hg k ∧ hg k ≤ 200000) (hf : fwL hg sd n fi ga (tp - ga) = []) : PvP hg sd n fi ga tp (hiS hg sd fi ga n).1 := by
  have hno : ¬ (0 < (hiS hg sd fi ga n).1 ∧ tp - ga ≤ (hiS hg sd fi ga n).1) := fun h => (hi_pass hs (fun k hk => (hp k hk).1)).1 h hf
  obtain ⟨i1, i2, -, -⟩ := hiS_all (fi := fi) (st := ga) (u := sd) hs n (Nat.le_refl _)
  refine ⟨?_, fun h => by omega, fun k hk hq => ?_⟩
  · rcases i2 with e | ⟨j, hj, _, e⟩
    · exact ⟨by omega, by omega⟩
    · have := hp j hj; exact ⟨by omega, by omega⟩
  · obtain ⟨q1, q2, q3⟩ := hq
    have hr : Rc hg sd n fi ga k := by
      rcases q3 with q3 | ⟨q3, q4⟩
      · exact .first hk q1 q3
      · rcases i2 with e | ⟨j, hj, hr, e⟩
        · omega
        · have hjk : j < k := by
            rcases Nat.lt_or_ge j k with q | q
            · exact q
            · rcases Nat.lt_or_ge k j with q' | q'
              · have := hs k j q' hj; omega
              · obtain rfl : j = k := by omega
                omega
          exact .next hr hjk hk q1 (by omega)
    have := (i1 k hk hr).1
    omega
end Go.Proofs.Ytbjdojcenflliaa
