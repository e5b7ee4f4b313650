/- Plain mathematics of uses and wear: a pair is a day and a load. -/
import Derived.Test.YtccjfmhbmieigaaDoorRoRN
namespace Go.Proofs.YtccjfmhbmieigaaDoor.Ro
open Go.Proofs.YtccjfmhbmieigaaDoor

def usAt (ps : List (Int × Int)) (i : Nat) : Int × Int := ps.getD i (0, 0)
abbrev Dy (d : Int) : Prop := Btw d 0 100000
def OkU (ps : List (Int × Int)) (k : Nat) : Prop := Dy (usAt ps k).1 ∧ Ld (usAt ps k).2 ∧ (0 < k → (usAt ps (k - 1)).1 ≤ (usAt ps k).1)
instance (ps : List (Int × Int)) (k : Nat) : Decidable (OkU ps k) := by unfold OkU; infer_instance
def GoodU (ps : List (Int × Int)) : Prop := ps.length ≤ 500 ∧ ∀ k, k < ps.length → OkU ps k
instance (ps : List (Int × Int)) : Decidable (GoodU ps) := by unfold GoodU; infer_instance
def GoodR (s d l : Int) : Prop := Btw s 1 1000000 ∧ Btw d 0 1000 ∧ Btw l 1 1000
instance (s d l : Int) : Decidable (GoodR s d l) := by unfold GoodR; infer_instance

theorem uses_le {ps : List (Int × Int)} (h : GoodU ps) {i : Nat} : ∀ {j : Nat}, i ≤ j → j < ps.length → (usAt ps i).1 ≤ (usAt ps j).1
  | 0, h1, h2 => by obtain rfl : i = 0 := by omega
                    exact Int.le_refl _
  | j + 1, h1, h2 => by
    rcases Nat.lt_or_ge j i with h3 | h3
    · obtain rfl : i = j + 1 := by omega
      exact Int.le_refl _
    · have h4 := uses_le h h3 (by omega)
      have h5 := (h.2 (j + 1) h2).2.2 (by omega)
      rw [show j + 1 - 1 = j by omega] at h5
      omega

/-- What a use takes, in thousandths. -/
def cst (s : Int) (p : Int × Int) : Int := ceilD (p.2 * 100) s
theorem cst_bd {s : Int} {p : Int × Int} (hs : 1 ≤ s) (h : Ld p.2) : 0 ≤ cst s p ∧ cst s p ≤ 100000000 := by
  obtain ⟨h1, h2⟩ := h
  refine ⟨ceil_nonneg (by omega) hs, (ceil_le hs).2 ?_⟩
  have : (100000000 : Int) * 1 ≤ 100000000 * s := Int.mul_le_mul_of_nonneg_left hs (by omega)
  omega
def csum (s : Int) (ps : List (Int × Int)) : Int := (ps.map (cst s)).sum
theorem csum_snoc (s : Int) (ps : List (Int × Int)) (p : Int × Int) : csum s (ps ++ [p]) = csum s ps + cst s p := by simp [csum]
theorem csum_bd {s : Int} (hs : 1 ≤ s) : ∀ ps : List (Int × Int), (∀ p ∈ ps, Ld p.2) → 0 ≤ csum s ps ∧ csum s ps ≤ ps.length * 100000000
  | [], _ => by simp [csum]
  | p :: ps, h => by
    have h1 := csum_bd hs ps (fun q hq => h q (List.mem_cons_of_mem _ hq))
    have h2 := cst_bd hs (h p List.mem_cons_self)
    simp only [csum, List.map_cons, List.sum_cons, List.length_cons] at *
    omega
/-- The uses up to and including a day. -/
def upD (d : Int) (ps : List (Int × Int)) : List (Int × Int) := ps.filter fun p => decide (p.1 ≤ d)
/-- What a rope has left on a day. -/
def leftN (s dl d : Int) (ps : List (Int × Int)) : Int := 1000 - dl * d - csum s (upD d ps)
def lft (s dl d : Int) (ps : List (Int × Int)) : Int := max (leftN s dl d ps) 0
theorem usAt_mem {ps : List (Int × Int)} {p : Int × Int} (h : p ∈ ps) : ∃ k, k < ps.length ∧ usAt ps k = p := by
  obtain ⟨k, hk, rfl⟩ := List.getElem_of_mem h
  exact ⟨k, hk, by unfold usAt; simp [List.getD_eq_getElem?_getD, hk]⟩
theorem goodU_all {ps : List (Int × Int)} (h : GoodU ps) : ∀ p ∈ ps, Ld p.2 := fun p hp => by
  obtain ⟨k, hk, rfl⟩ := usAt_mem hp
  exact (h.2 k hk).2.1
theorem upD_snoc (d : Int) (ps : List (Int × Int)) (p : Int × Int) : upD d (ps ++ [p]) = if p.1 ≤ d then upD d ps ++ [p] else upD d ps := by
  unfold upD
  rw [List.filter_append]
  by_cases h : p.1 ≤ d <;> simp [h]
theorem upD_len (d : Int) (ps : List (Int × Int)) : (upD d ps).length ≤ ps.length := List.length_filter_le _ _
theorem take_bdU {s : Int} {ps : List (Int × Int)} (hs : 1 ≤ s) (h : GoodU ps) (d : Int) (k : Nat) : 0 ≤ csum s (upD d (ps.take k)) ∧ csum s (upD d (ps.take k)) ≤ 50000000000 ∧ 0 ≤ csum s (ps.take k) ∧ csum s (ps.take k) ≤ 50000000000 := by
  have h1 := csum_bd hs (upD d (ps.take k)) (fun p hp => goodU_all h p (List.mem_of_mem_take (List.mem_filter.1 hp).1))
  have h2 := csum_bd hs (ps.take k) (fun p hp => goodU_all h p (List.mem_of_mem_take hp))
  have h3 := h.1
  have h4 : (ps.take k).length ≤ ps.length := by simp; omega
  have h5 := upD_len d (ps.take k)
  omega
theorem take_snocU {ps : List (Int × Int)} {k : Nat} (h : k < ps.length) : ps.take (k + 1) = ps.take k ++ [usAt ps k] := by
  rw [List.take_succ_eq_append_getElem h]; simp [usAt, List.getD_eq_getElem?_getD, h]
/-- The uses up to a day are the first ones. -/
theorem upD_take {ps : List (Int × Int)} {d : Int} : ∀ {r k : Nat}, r ≤ k → k ≤ ps.length → (∀ i, i < r → (usAt ps i).1 ≤ d) → (∀ i, r ≤ i → i < ps.length → d < (usAt ps i).1) → upD d (ps.take k) = ps.take r
  | r, 0, h1, _, _, _ => by obtain rfl : r = 0 := by omega
                            simp [upD]
  | r, k + 1, h1, h2, h3, h4 => by
    rw [take_snocU (by omega), upD_snoc]
    rcases Nat.lt_or_ge k r with h5 | h5
    · obtain rfl : r = k + 1 := by omega
      rw [if_pos (h3 k (by omega)), take_snocU (by omega)]
      congr 1
      have : ∀ j, j ≤ k → upD d (ps.take j) = ps.take j := by
        intro j hj
        induction j with
        | zero => simp [upD]
        | succ j ih => rw [take_snocU (by omega), upD_snoc, if_pos (h3 j (by omega)), ih (by omega)]
      exact this k (Nat.le_refl _)
    · have := h4 k h5 (by omega)
      rw [if_neg (by omega)]
      exact upD_take h5 (by omega) h3 h4
/-- A test that is false first and then true has a place where it turns. -/
theorem turn_at (B : Nat → Bool) : ∀ (n : Nat), (∀ i j, i ≤ j → j < n → B i = true → B j = true) → ∃ r, r ≤ n ∧ (∀ i, i < r → B i = false) ∧ (∀ i, r ≤ i → i < n → B i = true)
  | 0, _ => ⟨0, by omega, fun i h => absurd h (by omega), fun i _ h => absurd h (by omega)⟩
  | n + 1, h => by
    obtain ⟨r, h1, h2, h3⟩ := turn_at B n (fun i j hij hj => h i j hij (by omega))
    cases hb : B n with
    | true => exact ⟨r, by omega, h2, fun i hi hin => by
        rcases Nat.lt_or_ge i n with h4 | h4
        · exact h3 i hi h4
        · obtain rfl : i = n := by omega
          exact hb⟩
    | false =>
      refine ⟨n + 1, Nat.le_refl _, fun i hi => ?_, fun i hi hin => absurd hin (by omega)⟩
      cases hbi : B i with
      | false => rfl
      | true => have := h i n (by omega) (by omega) hbi; rw [hb] at this; cases this
theorem day_turn {ps : List (Int × Int)} (h : GoodU ps) (d : Int) : ∃ r, r ≤ ps.length ∧ (∀ i, i < r → decide (d < (usAt ps i).1) = false) ∧ (∀ i, r ≤ i → i < ps.length → decide (d < (usAt ps i).1) = true) :=
  turn_at (fun i => decide (d < (usAt ps i).1)) ps.length (fun i j hij hj hb => by
    have := uses_le h hij hj
    simp at hb ⊢; omega)
end Go.Proofs.YtccjfmhbmieigaaDoor.Ro
