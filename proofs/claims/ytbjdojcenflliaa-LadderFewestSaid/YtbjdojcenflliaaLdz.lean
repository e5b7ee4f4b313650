/- Routes as mathematics: right lists, the fewest, the first of them. -/
import Derived.Test.YtbjdojcenflliaaLdm
import Derived.Test.YtbjdojcenflliaaLds
import Derived.Test.YtbjdojcenflliaaLdk
namespace Go.Proofs.Ytbjdojcenflliaa
open Go.RowKit

section
variable {h : Nat → Int} {u : Nat → Bool} {N : Nat} {b st la : Int}
theorem upT_has (hs : ∀ i j, i < j → j < N → h i < h j) : ∀ (e i k : Nat), k - i ≤ e → i ≤ k → k < N → h k ≤ b → u k = true → k ∈ upT h u N b i
  | e, i, k, he, h1, h2, h3, h4 => by
    have hle : h i ≤ b := by
      by_cases q : i = k
      · subst q; exact h3
      · have := hs i k (by omega) h2; omega
    by_cases q : i = k
    · subst q
      rw [upT_take ⟨h2, hle⟩ h4]
      exact List.mem_cons_self
    · cases e with
      | zero => omega
      | succ e =>
        have hm := upT_has hs e (i + 1) k (by omega) (by omega) h2 h3 h4
        cases hu : u i
        · rw [upT_skip ⟨by omega, hle⟩ hu]; exact hm
        · rw [upT_take ⟨by omega, hle⟩ hu]; exact List.mem_cons_of_mem _ hm
theorem upT_asc : ∀ (e i : Nat), N - i ≤ e → (upT h u N b i).Pairwise (· < ·)
  | e, i, he => by
    by_cases hi : i < N ∧ h i ≤ b
    · cases e with
      | zero => omega
      | succ e =>
        have hr := upT_asc e (i + 1) (by omega)
        cases hu : u i
        · rw [upT_skip hi hu]; exact hr
        · rw [upT_take hi hu]
          exact List.Pairwise.cons (fun k hk => by have := (upT_of hk).1; omega) hr
    · rw [upT_end hi]; exact List.Pairwise.nil
/-- A right list from a place on, under a height. -/
def Ch (h : Nat → Int) (u : Nat → Bool) (N : Nat) (st la : Int) : Int → Nat → List Nat → Prop
  | _, _, [] => False
  | b, i, k :: r => k ∈ upT h u N b i ∧ ((r = [] ∧ la ≤ h k) ∨ (r ≠ [] ∧ Ch h u N st la (h k + st) (k + 1) r))
/-- The counts are those of the fewest. -/
theorem ch_count : ∀ (D : List Nat) (b : Int) (i : Nat), Ch h u N st la b i D → ∃ k r, D = k :: r ∧ k ∈ upT h u N b i ∧ ctN h u N st la k ≠ 0 ∧ ctN h u N st la k ≤ D.length
  | [], _, _, hc => hc.elim
  | k :: r, b, i, hc => by
    obtain ⟨h1, h2⟩ := hc
    have hk := upT_of h1
    refine ⟨k, r, rfl, h1, ?_⟩
    have hv := ctN_val (h := h) (u := u) (st := st) (la := la) (N := N) (i := k) hk.2.1
    rcases h2 with ⟨rfl, h2⟩ | ⟨hr, h2⟩
    · unfold ctV at hv
      rw [if_pos h2] at hv
      rw [hv]
      exact ⟨by omega, by simp⟩
    · obtain ⟨k', r', rfl, q1, q2, q3⟩ := ch_count r _ _ h2
      have l1 := ls_least (L := upT h u N (h k + st) (k + 1)) q1 q2
      have l0 : lsL (ctN h u N st la) (upT h u N (h k + st) (k + 1)) ≠ 0 := fun e => q2 (ls_zero e _ q1)
      unfold ctV at hv
      rw [if_neg l0] at hv
      simp only [List.length_cons] at q3 ⊢
      split at hv
      · rw [hv]; exact ⟨by omega, by omega⟩
      · rw [hv]; exact ⟨by omega, by omega⟩
theorem ch_ls {D : List Nat} {b : Int} {i : Nat} (hc : Ch h u N st la b i D) : lsL (ctN h u N st la) (upT h u N b i) ≠ 0 ∧ lsL (ctN h u N st la) (upT h u N b i) ≤ D.length := by
  obtain ⟨k, r, _, q1, q2, q3⟩ := ch_count D b i hc
  have := ls_least q1 q2
  exact ⟨fun e => q2 (ls_zero e _ q1), by omega⟩
/-- The first list is right, and as long as the count. -/
theorem fs_right : ∀ (n : Nat) (b : Int) (i : Nat), lsL (ctN h u N st la) (upT h u N b i) = n + 1 → Ch h u N st la b i (fsL h u N st (ctN h u N st la) (n + 1) b i) ∧ (fsL h u N st (ctN h u N st la) (n + 1) b i).length = n + 1
  | n, b, i, hl => by
    obtain ⟨k, hf⟩ := find_of_ls hl
    have hm := List.mem_of_find?_eq_some hf
    have hck : ctN h u N st la k = n + 1 := by simpa using List.find?_some hf
    have hk := upT_of hm
    have e : fsL h u N st (ctN h u N st la) (n + 1) b i = k :: fsL h u N st (ctN h u N st la) n (h k + st) (k + 1) := by simp only [fsL, hf]
    rw [e]
    cases n with
    | zero =>
      refine ⟨⟨hm, .inl ⟨rfl, ?_⟩⟩, rfl⟩
      have hv := ctN_val (h := h) (u := u) (st := st) (la := la) (N := N) (i := k) hk.2.1
      rw [hck] at hv
      unfold ctV at hv
      split at hv
      · assumption
      · split at hv <;> omega
    | succ n =>
      have hl2 := ctN_next hk.2.1 hck
      obtain ⟨h1, h2⟩ := fs_right n (h k + st) (k + 1) hl2
      refine ⟨⟨hm, .inr ⟨?_, h1⟩⟩, by simp [h2]⟩
      intro e0
      rw [e0] at h2
      simp at h2
/-- No list as long comes before the first. -/
theorem fs_first : ∀ (n : Nat) (b : Int) (i : Nat) (D : List Nat), lsL (ctN h u N st la) (upT h u N b i) = n + 1 → Ch h u N st la b i D → D.length = n + 1 →
    ∀ j, (∀ t < j, (fsL h u N st (ctN h u N st la) (n + 1) b i).getD t 0 = D.getD t 0) → j < n + 1 → (fsL h u N st (ctN h u N st la) (n + 1) b i).getD j 0 ≤ D.getD j 0
  | n, b, i, D, hl, hc, hD, j, hj, hjn => by
    obtain ⟨k, hf⟩ := find_of_ls hl
    have hm := List.mem_of_find?_eq_some hf
    have hck : ctN h u N st la k = n + 1 := by simpa using List.find?_some hf
    have hk := upT_of hm
    have e : fsL h u N st (ctN h u N st la) (n + 1) b i = k :: fsL h u N st (ctN h u N st la) n (h k + st) (k + 1) := by simp only [fsL, hf]
    rw [e] at hj ⊢
    obtain ⟨k', r, rfl, q1, q2, q3⟩ := ch_count D b i hc
    have q4 := ls_least q1 q2
    have q5 : ctN h u N st la k' = n + 1 := by omega
    have hkk : k ≤ k' := by
      obtain ⟨_, xs, ys, e1, e2⟩ := List.find?_eq_some_iff_append.1 hf
      have hp := upT_asc (h := h) (u := u) (N := N) (b := b) (N - i) i (Nat.le_refl _)
      rw [e1] at q1 hp
      rcases List.mem_append.1 q1 with hq | hq
      · have := e2 k' hq; simp [q5] at this
      · rcases List.mem_cons.1 hq with rfl | hq
        · exact Nat.le_refl _
        · have := (List.pairwise_append.1 hp).2.1
          have := (List.pairwise_cons.1 this).1 k' hq
          omega
    cases j with
    | zero => simpa using hkk
    | succ j =>
      have e0 := hj 0 (by omega)
      simp only [List.getD_cons_zero] at e0
      subst e0
      cases n with
      | zero => omega
      | succ n =>
        have hl2 := ctN_next hk.2.1 hck
        simp only [List.length_cons] at hD
        have hc2 : Ch h u N st la (h k + st) (k + 1) r := by
          rcases hc.2 with ⟨rfl, _⟩ | ⟨_, h2⟩
          · simp at hD
          · exact h2
        have := fs_first n (h k + st) (k + 1) r hl2 hc2 (by omega) j (fun t ht => by simpa using hj (t + 1) (by omega)) (by omega)
        simpa using this
end
/-- Right lists in memory and as lists. -/
theorem rt_list {hg : Nat → Int} {us : Nat → Bool} {n : Nat} {st la : Int} (hs : ∀ i j, i < j → j < n → hg i < hg j) : ∀ (D : List Nat) (b : Int) (i : Nat) (d : Nat → Int), (∀ k, k < D.length → d k = (D.getD k 0 : Nat)) →
    (((∀ k, k < D.length → Bt3 (d k) (if k = 0 then (i : Int) else d (k - 1) + 1) ((n : Int) - 1) ∧ us (d k).toNat = true ∧ hg (d k).toNat ≤ (if k = 0 then b else hg (d (k - 1)).toNat + st)) ∧ 0 < D.length ∧ la ≤ hg (d (D.length - 1)).toNat) ↔ Ch hg us n st la b i D)
  | [], b, i, d, hd => ⟨fun h => absurd h.2.1 (by simp), fun h => h.elim⟩
  | k :: r, b, i, d, hd => by
    have d0 : d 0 = (k : Nat) := by simpa using hd 0 (by simp)
    have hr : ∀ j, j < r.length → (fun j => d (j + 1)) j = (r.getD j 0 : Nat) := fun j hj => by simpa using hd (j + 1) (by simpa using hj)
    have ih := rt_list (us := us) (st := st) (la := la) hs r (hg k + st) (k + 1) (fun j => d (j + 1)) hr
    have hmem : (Bt3 (d 0) (i : Int) ((n : Int) - 1) ∧ us (d 0).toNat = true ∧ hg (d 0).toNat ≤ b) ↔ k ∈ upT hg us n b i := by
      rw [d0, show ((k : Int)).toNat = k from rfl]
      constructor
      · rintro ⟨h1, h2, h3⟩
        unfold Bt3 at h1
        exact upT_has hs (k - i) i k (Nat.le_refl _) (by omega) (by omega) h3 h2
      · intro hm
        have := upT_of hm
        exact ⟨⟨by omega, by omega⟩, this.2.2.2, this.2.2.1⟩
    show _ ↔ k ∈ upT hg us n b i ∧ ((r = [] ∧ la ≤ hg k) ∨ (r ≠ [] ∧ Ch hg us n st la (hg k + st) (k + 1) r))
    rw [← hmem, ← ih]
    rcases r with _ | ⟨k2, r⟩
    · constructor
      · rintro ⟨h1, _, h3⟩
        have h4 := h1 0 (by simp)
        simp only [if_true] at h4
        simp only [List.length_cons, List.length_nil] at h3
        rw [show 0 + 1 - 1 = 0 from rfl, d0] at h3
        exact ⟨h4, .inl ⟨rfl, h3⟩⟩
      · rintro ⟨h1, h2⟩
        rcases h2 with ⟨_, h2⟩ | ⟨h2, _⟩
        · refine ⟨fun j hj => ?_, by simp, ?_⟩
          · obtain rfl : j = 0 := by simp at hj; omega
            simpa using h1
          · show la ≤ hg (d 0).toNat
            rw [d0]; exact h2
        · exact absurd rfl h2
    · constructor
      · rintro ⟨h1, _, h3⟩
        have h4 := h1 0 (by simp)
        simp only [if_true] at h4
        refine ⟨h4, .inr ⟨by simp, fun j hj => ?_, by simp, ?_⟩⟩
        · have h5 := h1 (j + 1) (by simpa using hj)
          rw [if_neg (by omega), if_neg (by omega), Nat.add_sub_cancel] at h5
          by_cases e : j = 0
          · subst e
            rw [if_pos rfl, if_pos rfl]
            rw [d0] at h5
            exact h5
          · rw [if_neg e, if_neg e]
            simp only [show j - 1 + 1 = j by omega]
            exact h5
        · simpa using h3
      · rintro ⟨h1, h2⟩
        rcases h2 with ⟨h2, _⟩ | ⟨_, h2, _, h4⟩
        · cases h2
        · refine ⟨fun j hj => ?_, by simp, by simpa using h4⟩
          cases j with
          | zero => simpa using h1
          | succ j =>
            have h5 := h2 j (by simpa using hj)
            rw [if_neg (by omega), if_neg (by omega), Nat.add_sub_cancel]
            by_cases e : j = 0
            · subst e
              rw [if_pos rfl, if_pos rfl] at h5
              rw [d0]
              exact h5
            · rw [if_neg e, if_neg e] at h5
              simp only [show j - 1 + 1 = j by omega] at h5
              exact h5
theorem rtP_list {hg : Nat → Int} {us : Nat → Bool} {n : Nat} {fi st la : Int} (hs : ∀ i j, i < j → j < n → hg i < hg j) {D : List Nat} {d : Nat → Int} (hd : ∀ k, k < D.length → d k = (D.getD k 0 : Nat)) : RtP hg us n fi st la D.length d ↔ Ch hg us n st la fi 0 D := by
  rw [← rt_list hs D fi 0 d hd]
  rfl
/-- A right list in memory, as a list. -/
theorem rtP_ex {hg : Nat → Int} {us : Nat → Bool} {n : Nat} {fi st la : Int} {m : Nat} {d : Nat → Int} (h : RtP hg us n fi st la m d) : ∃ D : List Nat, D.length = m ∧ ∀ k, k < D.length → d k = (D.getD k 0 : Nat) := by
  refine ⟨(List.range m).map fun k => (d k).toNat, by simp, fun k hk => ?_⟩
  have hk : k < m := by simpa using hk
  have := stD_low h.1 k hk
  simp [List.getD, hk]
  omega
end Go.Proofs.Ytbjdojcenflliaa
