/- P8.3 as mathematics: a lesser Stop, a greater Calm. -/
import Derived.Test.YtfmoedlnjlkiiaaDoorWdp
namespace Go.Proofs.YtfmoedlnjlkiiaaDoor

theorem addS_head (x y : Int) (r : List (Int × Int)) (k : Nat) : ∃ y' r', addS ((x, y) :: r) k = (x, y') :: r' := by
  rcases nil_or_snoc r with rfl | ⟨l, ⟨p, q⟩, rfl⟩
  · have e := addS_last [] x y k
    simp only [List.nil_append] at e
    rw [e]
    split
    · exact ⟨_, [], rfl⟩
    · exact ⟨y, _, rfl⟩
  · have e := addS_last ((x, y) :: l) p q k
    rw [List.cons_append] at e
    rw [e]
    split
    · exact ⟨y, _, rfl⟩
    · exact ⟨y, _, rfl⟩
theorem spS_head (x : Nat) (xs : List Nat) : ∃ y r, spS (x :: xs) = ((x : Int), y) :: r := by
  have key : ∀ (xs : List Nat) (y : Int) (r : List (Int × Int)), ∃ y' r', xs.foldl addS (((x : Int), y) :: r) = ((x : Int), y') :: r' := by
    intro xs
    induction xs with
    | nil => intro y r; exact ⟨y, r, rfl⟩
    | cons k xs ih =>
      intro y r
      obtain ⟨y', r', e⟩ := addS_head x y r k
      rw [List.foldl_cons, e]
      exact ih y' r'
  show ∃ y r, (x :: xs).foldl addS [] = _
  rw [List.foldl_cons, addS_nil]
  exact key xs _ _
theorem fl_first {p : Nat → Bool} {n k : Nat} {r : List Nat} (h : fl p n = k :: r) : k < n ∧ p k = true ∧ ∀ j, j < k → p j = false := by
  have hm : k ∈ fl p n := by rw [h]; exact List.mem_cons_self
  obtain ⟨h1, h2⟩ := fl_lt hm
  refine ⟨h1, h2, fun j hj => ?_⟩
  cases hp : p j with
  | false => rfl
  | true =>
    have hjm : j ∈ fl p n := by
      unfold fl
      rw [List.mem_filter, List.mem_range]
      exact ⟨by omega, hp⟩
    have hs : (fl p n).Pairwise (· < ·) := List.Pairwise.filter _ List.pairwise_lt_range
    rw [h] at hs hjm
    rcases List.mem_cons.1 hjm with rfl | hm
    · omega
    · have := (List.pairwise_cons.1 hs).1 j hm
      omega
theorem fl_ne {p : Nat → Bool} {n j : Nat} (h : j < n) (hp : p j = true) : ∃ k r, fl p n = k :: r ∧ k ≤ j := by
  have hjm : j ∈ fl p n := by
    unfold fl
    rw [List.mem_filter, List.mem_range]
    exact ⟨h, hp⟩
  cases e : fl p n with
  | nil => rw [e] at hjm; cases hjm
  | cons k r =>
    refine ⟨k, r, rfl, ?_⟩
    rcases Nat.lt_or_ge j k with hj | hj
    · have := (fl_first e).2.2 j hj
      rw [hp] at this; cases this
    · exact hj
/-- While work goes by the lesser Stop it goes by the greater one. -/
theorem gW_stop {s s' g c : Int} {f : Nat → Int} (hs : s' ≤ s) : ∀ {k : Nat}, (∀ j, j ≤ k → gW s' g c f j = true) → (∀ j, j ≤ k → wt s g c f (j + 1) = 0 ∧ gW s g c f j = true) := by
  intro k
  induction k with
  | zero =>
    intro h j hj
    obtain rfl : j = 0 := by omega
    have h0 := h 0 (by omega)
    unfold gW at h0 ⊢
    simp only [Bool.and_eq_true, decide_eq_true_eq] at h0 ⊢
    have e : wt s g c f (0 + 1) = 0 := by
      have h1 := h0.2
      show nxW s g c (wt s g c f 0) (f 0) = 0
      change nxW s' g c (wt s' g c f 0) (f 0) = 0 at h1
      have z : wt s g c f 0 = 0 := rfl
      have z' : wt s' g c f 0 = 0 := rfl
      rw [z'] at h1
      rw [z]
      unfold nxW at h1 ⊢
      simp only [if_true] at h1 ⊢
      split
      · rename_i hx
        rw [if_pos (by omega)] at h1
        exact h1
      · rfl
    exact ⟨e, rfl, e⟩
  | succ k ih =>
    intro h j hj
    have ih' := ih fun i hi => h i (by omega)
    rcases Nat.lt_or_ge j (k + 1) with h1 | h1
    · exact ih' j (by omega)
    · obtain rfl : j = k + 1 := by omega
      have hz := (ih' k (Nat.le_refl _)).1
      have h0 := h (k + 1) (Nat.le_refl _)
      unfold gW at h0 ⊢
      simp only [Bool.and_eq_true, decide_eq_true_eq] at h0 ⊢
      obtain ⟨z', h1⟩ := h0
      have e : wt s g c f (k + 1 + 1) = 0 := by
        show nxW s g c (wt s g c f (k + 1)) (f (k + 1)) = 0
        change nxW s' g c (wt s' g c f (k + 1)) (f (k + 1)) = 0 at h1
        rw [z'] at h1
        rw [hz]
        unfold nxW at h1 ⊢
        simp only [if_true] at h1 ⊢
        split
        · rename_i hx
          rw [if_pos (by omega)] at h1
          exact h1
        · rfl
      exact ⟨e, hz, e⟩
theorem pW_false {s g c : Int} {f : Nat → Int} {k : Nat} : pW s g c f false k = true ↔ gW s g c f k = false := by
  unfold pW
  cases gW s g c f k <;> simp
theorem strict_first {s s' g c : Int} {n : Nat} {f : Nat → Int} (hs : s' ≤ s) (hk : AskB s g c n f = true) (hk' : AskB s' g c n f = true) {p : Int × Int} {r : List (Int × Int)} (h : stL s g c n f = p :: r) :
    ∃ p' r', stL s' g c n f = p' :: r' ∧ p'.1 ≤ p.1 := by
  unfold stL at h ⊢
  rw [if_pos hk] at h
  rw [if_pos hk']
  cases e : fl (pW s g c f false) n with
  | nil => rw [e] at h; cases h
  | cons k xs =>
    rw [e] at h
    obtain ⟨y, r1, e1⟩ := spS_head k xs
    rw [e1] at h
    obtain ⟨rfl, rfl⟩ : ((k : Int), y) = p ∧ r1 = r := by cases h; exact ⟨rfl, rfl⟩
    obtain ⟨hkn, hpk, _⟩ := fl_first e
    have hnot : ¬ ∀ j, j ≤ k → gW s' g c f j = true := fun hall => by
      have := (gW_stop hs hall k (Nat.le_refl _)).2
      rw [pW_false] at hpk
      rw [hpk] at this
      cases this
    obtain ⟨j, hj⟩ := Classical.not_forall.1 hnot
    obtain ⟨hjk, hgj⟩ := Classical.not_imp.1 hj
    have hpj : pW s' g c f false j = true := pW_false.2 (by cases hx : gW s' g c f j <;> simp_all)
    obtain ⟨k', r', e', hk'j⟩ := fl_ne (n := n) (by omega) hpj
    rw [e']
    obtain ⟨y', r2, e2⟩ := spS_head k' r'
    exact ⟨_, _, e2, by dsimp only; omega⟩
theorem calm_le {s g c c' : Int} {f : Nat → Int} (hg : g ≤ s) (h0 : 1 ≤ c) (hc : c ≤ c') : ∀ k, wt s g c f k ≤ wt s g c' f k
  | 0 => Int.le_refl _
  | k + 1 => by
    have ih := calm_le (f := f) hg h0 hc k
    have b := wt_bd (s := s) (g := g) h0 f k
    have b' := wt_bd (s := s) (g := g) (c := c') (by omega) f k
    show nxW s g c (wt s g c f k) (f k) ≤ nxW s g c' (wt s g c' f k) (f k)
    generalize wt s g c f k = u at *
    generalize wt s g c' f k = u' at *
    generalize f k = x at *
    unfold nxW
    by_cases h1 : u = 0 <;> by_cases h2 : u' = 0 <;> by_cases h3 : x = -1 ∨ s ≤ x <;> by_cases h4 : x = -1 ∨ g ≤ x <;> simp only [h1, h2, h3, h4, if_true, if_false] <;> omega
theorem calm_goes {s g c c' : Int} {f : Nat → Int} (hg : g ≤ s) (h0 : 1 ≤ c) (hc : c ≤ c') {k : Nat} (h : gW s g c' f k = true) : gW s g c f k = true := by
  unfold gW at h ⊢
  simp only [Bool.and_eq_true, decide_eq_true_eq] at h ⊢
  have a1 := calm_le (f := f) hg h0 hc k
  have a2 := calm_le (f := f) hg h0 hc (k + 1)
  have b1 := wt_bd (s := s) (g := g) h0 f k
  have b2 := wt_bd (s := s) (g := g) h0 f (k + 1)
  omega
end Go.Proofs.YtfmoedlnjlkiiaaDoor
