/- Routes as mathematics: what one can come to, the counts, the first list. -/
import Derived.Test.YtbjdojcenflliaaProg
namespace Go.Proofs.Ytbjdojcenflliaa

/-- The usable places from one on that are at most at a height: up to the first that is higher. -/
def upR (h : Nat → Int) (u : Nat → Bool) (N : Nat) (b : Int) : Nat → Nat → List Nat
  | 0, _ => []
  | f + 1, i => if i < N ∧ h i ≤ b then (if u i then i :: upR h u N b f (i + 1) else upR h u N b f (i + 1)) else []
def upT (h : Nat → Int) (u : Nat → Bool) (N : Nat) (b : Int) (i : Nat) : List Nat := upR h u N b (N - i) i
section
variable {h : Nat → Int} {u : Nat → Bool} {N : Nat} {b : Int}
theorem upR_succ (f i : Nat) : upR h u N b (f + 1) i = if i < N ∧ h i ≤ b then (if u i then i :: upR h u N b f (i + 1) else upR h u N b f (i + 1)) else [] := rfl
theorem upT_end {i : Nat} (hi : ¬ (i < N ∧ h i ≤ b)) : upT h u N b i = [] := by
  unfold upT
  cases N - i with
  | zero => rfl
  | succ f => rw [upR_succ, if_neg hi]
theorem upT_skip {i : Nat} (hi : i < N ∧ h i ≤ b) (hu : u i = false) : upT h u N b i = upT h u N b (i + 1) := by
  unfold upT
  obtain ⟨f, hf⟩ : ∃ f, N - i = f + 1 := ⟨N - i - 1, by omega⟩
  rw [hf, upR_succ, if_pos hi, hu, show N - (i + 1) = f by omega]
  rfl
theorem upT_take {i : Nat} (hi : i < N ∧ h i ≤ b) (hu : u i = true) : upT h u N b i = i :: upT h u N b (i + 1) := by
  unfold upT
  obtain ⟨f, hf⟩ : ∃ f, N - i = f + 1 := ⟨N - i - 1, by omega⟩
  rw [hf, upR_succ, if_pos hi, hu, show N - (i + 1) = f by omega]
  rfl
theorem upT_mem : ∀ (d i : Nat), N - i ≤ d → ∀ k ∈ upT h u N b i, i ≤ k ∧ k < N ∧ h k ≤ b ∧ u k = true
  | d, i, hd, k, hk => by
    by_cases hi : i < N ∧ h i ≤ b
    · cases d with
      | zero => omega
      | succ d =>
        cases hu : u i
        · rw [upT_skip hi hu] at hk
          have := upT_mem d (i + 1) (by omega) k hk
          exact ⟨by omega, this.2⟩
        · rw [upT_take hi hu] at hk
          rcases List.mem_cons.1 hk with rfl | hk
          · exact ⟨Nat.le_refl _, hi.1, hi.2, hu⟩
          · have := upT_mem d (i + 1) (by omega) k hk
            exact ⟨by omega, this.2⟩
    · rw [upT_end hi] at hk
      cases hk
theorem upT_of {i k : Nat} (hm : k ∈ upT h u N b i) : i ≤ k ∧ k < N ∧ h k ≤ b ∧ u k = true := upT_mem (N - i) i (Nat.le_refl _) k hm
end
/-- The least count of some places, 0 if none has one. -/
def lsS (c : Nat → Nat) (m i : Nat) : Nat := if c i ≠ 0 ∧ (m = 0 ∨ c i < m) then c i else m
def lsL (c : Nat → Nat) (L : List Nat) : Nat := L.foldl (lsS c) 0
theorem ls_fold (c : Nat → Nat) : ∀ (L : List Nat) (m : Nat), (L.foldl (lsS c) m = m ∨ ∃ i ∈ L, c i ≠ 0 ∧ L.foldl (lsS c) m = c i) ∧ (m ≠ 0 → L.foldl (lsS c) m ≠ 0 ∧ L.foldl (lsS c) m ≤ m) ∧ (∀ i ∈ L, c i ≠ 0 → L.foldl (lsS c) m ≠ 0 ∧ L.foldl (lsS c) m ≤ c i)
  | [], m => ⟨.inl rfl, fun h => ⟨h, Nat.le_refl _⟩, fun i hi => by cases hi⟩
  | a :: L, m => by
    obtain ⟨h1, h2, h3⟩ := ls_fold c L (lsS c m a)
    simp only [List.foldl_cons]
    have hs : (lsS c m a = m ∧ ¬ (c a ≠ 0 ∧ (m = 0 ∨ c a < m))) ∨ (lsS c m a = c a ∧ c a ≠ 0 ∧ (m = 0 ∨ c a < m)) := by
      unfold lsS
      by_cases hq : c a ≠ 0 ∧ (m = 0 ∨ c a < m)
      · rw [if_pos hq]; exact .inr ⟨rfl, hq⟩
      · rw [if_neg hq]; exact .inl ⟨rfl, hq⟩
    rcases hs with ⟨e, hq⟩ | ⟨e, q1, q2⟩
    · rw [e] at h1 h2 h3 ⊢
      refine ⟨?_, h2, fun i hi hc => ?_⟩
      · rcases h1 with h1 | ⟨i, hi, h1⟩
        · exact .inl h1
        · exact .inr ⟨i, List.mem_cons_of_mem _ hi, h1⟩
      · rcases List.mem_cons.1 hi with rfl | hi
        · have hm : m ≠ 0 ∧ m ≤ c i := by
            constructor
            · exact fun e => hq ⟨hc, .inl e⟩
            · rcases Nat.lt_or_ge (c i) m with hl | hl
              · exact absurd ⟨hc, .inr hl⟩ hq
              · exact hl
          have := h2 hm.1
          exact ⟨this.1, by omega⟩
        · exact h3 i hi hc
    · rw [e] at h1 h2 h3 ⊢
      have h4 := h2 q1
      refine ⟨?_, fun hm => ⟨h4.1, by omega⟩, fun i hi hc => ?_⟩
      · rcases h1 with h1 | ⟨i, hi, h1⟩
        · exact .inr ⟨a, List.mem_cons_self, q1, h1⟩
        · exact .inr ⟨i, List.mem_cons_of_mem _ hi, h1⟩
      · rcases List.mem_cons.1 hi with rfl | hi
        · exact h4
        · exact h3 i hi hc
theorem ls_zero {c : Nat → Nat} {L : List Nat} (h : lsL c L = 0) : ∀ i ∈ L, c i = 0 := fun i hi => by
  cases hc : c i with
  | zero => rfl
  | succ n => exact absurd h ((ls_fold c L 0).2.2 i hi (by omega)).1
theorem ls_some {c : Nat → Nat} {L : List Nat} (h : lsL c L ≠ 0) : ∃ i ∈ L, c i = lsL c L := by
  rcases (ls_fold c L 0).1 with h1 | ⟨i, hi, _, h1⟩
  · exact absurd h1 h
  · exact ⟨i, hi, h1.symm⟩
theorem ls_least {c : Nat → Nat} {L : List Nat} {i : Nat} (hi : i ∈ L) (hc : c i ≠ 0) : lsL c L ≤ c i := ((ls_fold c L 0).2.2 i hi hc).2
theorem ls_congr {c c' : Nat → Nat} : ∀ (L : List Nat) (m : Nat), (∀ i ∈ L, c i = c' i) → L.foldl (lsS c) m = L.foldl (lsS c') m
  | [], _, _ => rfl
  | a :: L, m, h => by
    simp only [List.foldl_cons]
    have e : lsS c m a = lsS c' m a := by unfold lsS; rw [h a List.mem_cons_self]
    rw [e, ls_congr L _ fun i hi => h i (List.mem_cons_of_mem _ hi)]
theorem lsL_snoc (c : Nat → Nat) (L : List Nat) (i : Nat) : lsL c (L ++ [i]) = lsS c (lsL c L) i := by simp [lsL, List.foldl_append]
/-- The count of a place by the counts of those above. -/
def ctV (h : Nat → Int) (u : Nat → Bool) (N : Nat) (st la : Int) (c : Nat → Nat) (i : Nat) : Nat :=
  if la ≤ h i then 1 else if lsL c (upT h u N (h i + st) (i + 1)) = 0 then 0 else lsL c (upT h u N (h i + st) (i + 1)) + 1
def updC (c : Nat → Nat) (i x : Nat) : Nat → Nat := fun k => if k = i then x else c k
/-- The counts when the last k places are done. -/
def ctS (h : Nat → Int) (u : Nat → Bool) (N : Nat) (st la : Int) : Nat → Nat → Nat
  | 0 => fun _ => 0
  | k + 1 => updC (ctS h u N st la k) (N - (k + 1)) (ctV h u N st la (ctS h u N st la k) (N - (k + 1)))
/-- The first of the fewest places from a bound on. -/
def fsL (h : Nat → Int) (u : Nat → Bool) (N : Nat) (st : Int) (c : Nat → Nat) : Nat → Int → Nat → List Nat
  | 0, _, _ => []
  | n + 1, b, i => match (upT h u N b i).find? (fun k => c k == n + 1) with
    | none => []
    | some k => k :: fsL h u N st c n (h k + st) (k + 1)
section
variable {h : Nat → Int} {u : Nat → Bool} {N : Nat} {st la : Int}
theorem ctS_low {k i : Nat} (hk : k ≤ N) (hi : i < N - k) : ctS h u N st la k i = 0 := by
  induction k with
  | zero => rfl
  | succ k ih =>
    show (if i = N - (k + 1) then _ else ctS h u N st la k i) = 0
    rw [if_neg (by omega)]
    exact ih (by omega) (by omega)
theorem ctS_keep {k : Nat} : ∀ (d i : Nat), k + d ≤ N → N - k ≤ i → ctS h u N st la (k + d) i = ctS h u N st la k i
  | 0, _, _, _ => rfl
  | d + 1, i, hd, hi => by
    show (if i = N - (k + d + 1) then _ else ctS h u N st la (k + d) i) = _
    rw [if_neg (by omega)]
    exact ctS_keep d i (by omega) hi
/-- The counts. -/
def ctN (h : Nat → Int) (u : Nat → Bool) (N : Nat) (st la : Int) : Nat → Nat := ctS h u N st la N
theorem ctN_at {k i : Nat} (hk : k ≤ N) (hi : N - k ≤ i) : ctN h u N st la i = ctS h u N st la k i := by
  unfold ctN
  have := ctS_keep (h := h) (u := u) (st := st) (la := la) (N := N) (k := k) (N - k) i (by omega) hi
  rwa [show k + (N - k) = N by omega] at this
theorem ctN_val {i : Nat} (hi : i < N) : ctN h u N st la i = ctV h u N st la (ctN h u N st la) i := by
  have e1 : ctN h u N st la i = ctS h u N st la (N - i) i := ctN_at (by omega) (by omega)
  rw [e1, show N - i = (N - i - 1) + 1 by omega]
  show (if i = N - ((N - i - 1) + 1) then ctV h u N st la (ctS h u N st la (N - i - 1)) (N - ((N - i - 1) + 1)) else _) = _
  rw [if_pos (by omega), show N - ((N - i - 1) + 1) = i by omega]
  have e2 : lsL (ctS h u N st la (N - i - 1)) (upT h u N (h i + st) (i + 1)) = lsL (ctN h u N st la) (upT h u N (h i + st) (i + 1)) := ls_congr _ _ fun k hk => by
    have := upT_of hk
    exact (ctN_at (k := N - i - 1) (by omega) (by omega)).symm
  unfold ctV
  rw [e2]
/-- A place with a greater count than 1 leads to one with one less. -/
theorem ctN_next {i n : Nat} (hi : i < N) (hc : ctN h u N st la i = n + 2) : lsL (ctN h u N st la) (upT h u N (h i + st) (i + 1)) = n + 1 := by
  rw [ctN_val hi] at hc
  unfold ctV at hc
  split at hc
  · omega
  · split at hc
    · omega
    · omega
theorem find_of_ls {c : Nat → Nat} {L : List Nat} {n : Nat} (hl : lsL c L = n + 1) : ∃ k, L.find? (fun k => c k == n + 1) = some k := by
  obtain ⟨i, hi, hc⟩ := ls_some (c := c) (L := L) (by omega)
  cases hf : L.find? (fun k => c k == n + 1) with
  | some k => exact ⟨k, rfl⟩
  | none =>
    have := List.find?_eq_none.1 hf i hi
    simp at this
    omega
/-- The first of the fewest lists. -/
def fwL (h : Nat → Int) (u : Nat → Bool) (N : Nat) (fi st la : Int) : List Nat := fsL h u N st (ctN h u N st la) (lsL (ctN h u N st la) (upT h u N fi 0)) fi 0
end
end Go.Proofs.Ytbjdojcenflliaa
