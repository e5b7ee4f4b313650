/- P8.2 as mathematics: the stops cover what does not go; calm minutes behind. -/
import Derived.Test.YtfmoedlnjlkiiaaDoorWdq
namespace Go.Proofs.YtfmoedlnjlkiiaaDoor

/-- Spans that lie apart, in order, and hold just the minutes that are so. -/
structure SpInv (p : Nat → Bool) (n : Nat) (L : List (Int × Int)) : Prop where
  apart : L.Pairwise fun x y => x.2 < y.1
  pos : ∀ x ∈ L, 0 ≤ x.1 ∧ x.1 < x.2 ∧ x.2 ≤ n
  memb : ∀ m : Nat, m < n → (p m = true ↔ ∃ x ∈ L, x.1 ≤ (m : Int) ∧ (m : Int) < x.2)
theorem spInv (p : Nat → Bool) : ∀ n, SpInv p n (spS (fl p n))
  | 0 => ⟨List.Pairwise.nil, fun x hx => (by cases hx), fun m hm => (by omega)⟩
  | n + 1 => by
    obtain ⟨h1, h2, h3⟩ := spInv p n
    rw [fl_succ]
    by_cases hp : p n = true
    · rw [if_pos hp, spS_snoc]
      generalize spS (fl p n) = L at *
      rcases nil_or_snoc L with rfl | ⟨l, ⟨x, y⟩, rfl⟩
      · rw [addS_nil]
        refine ⟨List.pairwise_singleton _ _, fun z hz => ?_, fun m hm => ?_⟩
        · rw [List.mem_singleton] at hz
          subst hz
          dsimp only
          omega
        · rcases Nat.lt_or_ge m n with hmn | hmn
          · rw [h3 m hmn]
            constructor
            · rintro ⟨z, hz, _⟩; cases hz
            · rintro ⟨z, hz, hz1, hz2⟩
              rw [List.mem_singleton] at hz
              subst hz
              dsimp only at hz1 hz2
              omega
          · obtain rfl : m = n := by omega
            exact ⟨fun _ => ⟨_, List.mem_singleton.2 rfl, by dsimp only; omega, by dsimp only; omega⟩, fun _ => hp⟩
      · rw [addS_last]
        have hy := h2 (x, y) (by simp)
        dsimp only at hy
        rw [List.pairwise_append] at h1
        obtain ⟨p1, _, p3⟩ := h1
        have p3' : ∀ z ∈ l, z.2 < x := fun z hz => p3 z hz (x, y) (by simp)
        by_cases hyn : y = n
        · rw [if_pos hyn]
          refine ⟨List.pairwise_append.2 ⟨p1, List.pairwise_singleton _ _, fun z hz u hu => ?_⟩, fun z hz => ?_, fun m hm => ?_⟩
          · rw [List.mem_singleton] at hu
            subst hu
            exact p3' z hz
          · rcases List.mem_append.1 hz with hz | hz
            · have := h2 z (List.mem_append.2 (.inl hz))
              omega
            · rw [List.mem_singleton] at hz
              subst hz
              dsimp only
              omega
          · rcases Nat.lt_or_ge m n with hmn | hmn
            · rw [h3 m hmn]
              constructor
              · rintro ⟨z, hz, hz1, hz2⟩
                rcases List.mem_append.1 hz with hz | hz
                · exact ⟨z, List.mem_append.2 (.inl hz), hz1, hz2⟩
                · rw [List.mem_singleton] at hz
                  subst hz
                  exact ⟨_, List.mem_append.2 (.inr (List.mem_singleton.2 rfl)), hz1, by dsimp only; omega⟩
              · rintro ⟨z, hz, hz1, hz2⟩
                rcases List.mem_append.1 hz with hz | hz
                · exact ⟨z, List.mem_append.2 (.inl hz), hz1, hz2⟩
                · rw [List.mem_singleton] at hz
                  subst hz
                  dsimp only at hz1 hz2
                  exact ⟨(x, y), by simp, hz1, by dsimp only; omega⟩
            · obtain rfl : m = n := by omega
              exact ⟨fun _ => ⟨_, List.mem_append.2 (.inr (List.mem_singleton.2 rfl)), by dsimp only; omega, by dsimp only; omega⟩, fun _ => hp⟩
        · rw [if_neg hyn]
          refine ⟨List.pairwise_append.2 ⟨List.pairwise_append.2 ⟨p1, List.pairwise_singleton _ _, p3⟩, List.pairwise_singleton _ _, fun z hz u hu => ?_⟩, fun z hz => ?_, fun m hm => ?_⟩
          · rw [List.mem_singleton] at hu
            subst hu
            rcases List.mem_append.1 hz with hz | hz
            · have := p3' z hz
              dsimp only
              omega
            · rw [List.mem_singleton] at hz
              subst hz
              dsimp only
              omega
          · rcases List.mem_append.1 hz with hz | hz
            · have := h2 z hz
              omega
            · rw [List.mem_singleton] at hz
              subst hz
              dsimp only
              omega
          · rcases Nat.lt_or_ge m n with hmn | hmn
            · rw [h3 m hmn]
              constructor
              · rintro ⟨z, hz, hz1, hz2⟩
                exact ⟨z, List.mem_append.2 (.inl hz), hz1, hz2⟩
              · rintro ⟨z, hz, hz1, hz2⟩
                rcases List.mem_append.1 hz with hz | hz
                · exact ⟨z, hz, hz1, hz2⟩
                · rw [List.mem_singleton] at hz
                  subst hz
                  dsimp only at hz1 hz2
                  omega
            · obtain rfl : m = n := by omega
              exact ⟨fun _ => ⟨_, List.mem_append.2 (.inr (List.mem_singleton.2 rfl)), by dsimp only; omega, by dsimp only; omega⟩, fun _ => hp⟩
    · rw [if_neg hp]
      refine ⟨h1, fun z hz => (by have := h2 z hz; omega), fun m hm => ?_⟩
      rcases Nat.lt_or_ge m n with hmn | hmn
      · exact h3 m hmn
      · obtain rfl : m = n := by omega
        exact ⟨fun h => absurd h hp, fun ⟨z, hz, _, hz2⟩ => by have := h2 z hz; omega⟩
theorem getD_mem {L : List (Int × Int)} {i : Nat} (h : i < L.length) : L.getD i (0, 0) ∈ L := by
  rw [List.getD_eq_getElem?_getD, List.getElem?_eq_getElem h]
  exact List.getElem_mem h
theorem spInv_lt {p : Nat → Bool} {n : Nat} {L : List (Int × Int)} (h : SpInv p n L) {i j : Nat} (hij : i < j) (hj : j < L.length) : (L.getD i (0, 0)).2 < (L.getD j (0, 0)).1 := by
  have := List.pairwise_iff_getElem.1 h.apart i j (by omega) hj hij
  rw [List.getD_eq_getElem?_getD, List.getD_eq_getElem?_getD, List.getElem?_eq_getElem hj, List.getElem?_eq_getElem (by omega : i < L.length)]
  exact this
/-- Whether a minute is in a stop, by the first stop that ends behind it. -/
theorem spInv_in {p : Nat → Bool} {n : Nat} {L : List (Int × Int)} (h : SpInv p n L) {m k : Nat} (hm : m < n) (hk : k ≤ L.length) (h1 : ∀ i, i < k → (L.getD i (0, 0)).2 ≤ (m : Int)) (h2 : k < L.length → (m : Int) < (L.getD k (0, 0)).2) :
    p m = true ↔ k < L.length ∧ (L.getD k (0, 0)).1 ≤ (m : Int) := by
  rw [h.memb m hm]
  constructor
  · rintro ⟨x, hx, hx1, hx2⟩
    obtain ⟨i, hi, rfl⟩ := List.mem_iff_getElem.1 hx
    have e : L.getD i (0, 0) = L[i] := by rw [List.getD_eq_getElem?_getD, List.getElem?_eq_getElem hi]; rfl
    have hik : k ≤ i := by
      rcases Nat.lt_or_ge i k with hik | hik
      · have := h1 i hik
        rw [e] at this
        omega
      · exact hik
    refine ⟨by omega, ?_⟩
    rcases Nat.lt_or_ge k i with hki | hki
    · have h3 := spInv_lt h hki hi
      have h4 := h.pos _ (getD_mem (show k < L.length by omega))
      rw [e] at h3
      omega
    · obtain rfl : k = i := by omega
      rw [e]; exact hx1
  · rintro ⟨hk', hk1⟩
    exact ⟨_, getD_mem hk', hk1, h2 hk'⟩
/-- Where work goes there is a reading below Stop. -/
theorem gW_below {s g c : Int} {f : Nat → Int} {k : Nat} (hc : 1 ≤ c) (hx : -1 ≤ f k) (h : gW s g c f k = true) : 0 ≤ f k ∧ f k < s := by
  unfold gW at h
  simp only [Bool.and_eq_true, decide_eq_true_eq] at h
  obtain ⟨h0, h1⟩ := h
  change nxW s g c (wt s g c f k) (f k) = 0 at h1
  rw [h0] at h1
  unfold nxW at h1
  simp only [if_true] at h1
  split at h1 <;> omega
/-! ### Calm minutes behind -/
def exF (f : Nat → Int) (n : Nat) (k : Nat) : Int := if k < n then f k else 0
theorem exF_lt {f : Nat → Int} {n k : Nat} (h : k < n) : exF f n k = f k := if_pos h
theorem exF_ge {f : Nat → Int} {n k : Nat} (h : n ≤ k) : exF f n k = 0 := if_neg (by omega)
theorem wt_exF (s g c : Int) (f : Nat → Int) (n : Nat) : ∀ k, k ≤ n → wt s g c (exF f n) k = wt s g c f k
  | 0, _ => rfl
  | k + 1, h => by
    show nxW _ _ _ _ _ = nxW _ _ _ _ _
    rw [wt_exF s g c f n k (by omega), exF_lt (by omega)]
theorem wt_calm {s g c : Int} (f : Nat → Int) (n : Nat) (hg : 1 ≤ g) : ∀ j : Nat, (j : Int) ≤ wt s g c f n → wt s g c (exF f n) (n + j) = wt s g c f n - j
  | 0, _ => by rw [Nat.add_zero, wt_exF s g c f n n (Nat.le_refl _)]; omega
  | j + 1, h => by
    have ih := wt_calm (s := s) (c := c) f n hg j (by omega)
    show nxW _ _ _ (wt s g c (exF f n) (n + j)) (exF f n (n + j)) = _
    rw [ih, exF_ge (by omega)]
    unfold nxW
    rw [if_neg (by omega), if_neg (by omega)]
    omega
theorem exF_good {n : Nat} {f : Nat → Int} (h : GoodG n f) {j : Nat} (hj : n + j ≤ 2000) : GoodG (n + j) (exF f n) := ⟨hj, fun k hk => by
  unfold exF
  split
  · rename_i hkn; exact h.2 k hkn
  · unfold OkG Btw; omega⟩
/-- What Resumes answers with the calm minutes behind, and with one less. -/
theorem re_calm {s g c : Int} {n : Nat} {f : Nat → Int} (h : AskB s g c n f = true) (hn : n ≤ 300) {N : Nat} (hN : wt s g c f n = N) (h0 : N ≠ 0) :
    reE s g c (n + N) (exF f n) = 10 ∧ reE s g c (n + N - 1) (exF f n) = 0 := by
  obtain ⟨h1, h2⟩ := ask_of h
  have h2' := h2
  unfold GoodRu Btw at h2'
  have hb := wt_bd (s := s) (g := g) (c := c) (by omega) f n
  have k1 : AskB s g c (n + N) (exF f n) = true := by unfold AskB; rw [decide_eq_true (exF_good h1 (by omega)), decide_eq_true h2]; rfl
  obtain ⟨M, rfl⟩ : ∃ M, N = M + 1 := ⟨N - 1, by omega⟩
  have k2 : AskB s g c (n + M) (exF f n) = true := by unfold AskB; rw [decide_eq_true (exF_good h1 (by omega)), decide_eq_true h2]; rfl
  unfold reE
  rw [show n + (M + 1) - 1 = n + M by omega, if_pos k1, if_pos k2, wt_calm f n (by omega) (M + 1) (by omega), wt_calm f n (by omega) M (by omega)]
  exact ⟨if_pos (by omega), if_neg (by omega)⟩
end Go.Proofs.YtfmoedlnjlkiiaaDoor
