/- P7.4 as mathematics. -/
import Derived.Test.YteojmhfocdlnoaaDoorTrGmp
namespace Go.Proofs.YteojmhfocdlnoaaDoor.Tr
open Go.Proofs.YteojmhfocdlnoaaDoor
open Go.RowKit
attribute [local go_sem] After.cell After.frozen After.lt After.le After.ne After.ne' After.set_eq After.size_set After.lt_add tx_size tx_toList

theorem rb_mono {lf : Nat → Int} {m : Nat} {lo lo' : Nat → Int} {E : List Nat} (i : Nat) : ∀ k, k ≤ E.length → (∀ j, j < E.length → lo' j ≤ lo j) → rbN lf m lo' E k i ≤ rbN lf m lo E k i
  | 0, _, _ => Int.le_refl _
  | k + 1, hk, h => by
    have h1 := rb_mono (lf := lf) (m := m) (lo := lo) (lo' := lo') i k (by omega) h
    have h2 := h k (by omega)
    unfold rbN
    by_cases hq : i ∈ upO lf m (E.getD k 0 : Nat)
    · rw [if_pos hq, if_pos hq]; omega
    · rw [if_neg hq, if_neg hq]; omega
theorem thN_nil {p : Nat → Bool} {m : Nat} : (thN p m).length = 0 ↔ ∀ i, i < m → p i = false := by
  unfold thN
  constructor
  · intro h i hi
    have h1 := List.eq_nil_of_length_eq_zero h
    have := List.filter_eq_nil_iff.1 h1 i (List.mem_range.2 hi)
    simpa using this
  · intro h
    rw [List.filter_eq_nil_iff.2 (fun i hi => by rw [h i (List.mem_range.1 hi)]; decide)]
    rfl
theorem wkE_zero {b : Bool} {nk : Nat} {c day : Int} (h : wkE b nk c day = 0) : b = true ∧ nk ≤ 100 ∧ c = 0 ∧ Btw day 0 100000 := by
  unfold wkE at h
  cases b with
  | false => simp at h
  | true =>
    rw [if_pos rfl] at h
    by_cases h1 : 100 < nk
    · rw [if_pos h1] at h; simp at h
    · rw [if_neg h1] at h
      by_cases h2 : c ≠ 0
      · rw [if_pos h2] at h; exact absurd h h2
      · rw [if_neg h2] at h
        by_cases h3 : Btw day 0 100000
        · exact ⟨rfl, by omega, by omega, h3⟩
        · rw [if_neg h3] at h; simp at h
theorem brE_zero {n K : Nat} {lo : Nat → Int} (h : brE n lo K = 0) : n = K ∧ LdOk n lo := by
  unfold brE at h
  by_cases h1 : n = K
  · rw [if_pos h1] at h
    by_cases h2 : LdOk n lo
    · exact ⟨h1, h2⟩
    · rw [if_neg h2] at h; simp at h
  · rw [if_neg h1] at h; simp at h
section
variable {n m : Nat} {gm lm : Nat → List UInt8} {gl gd : Nat → Int} {gb : Nat → List UInt8} {lf : Nat → Int} {nk nq : Nat} {gs : Nat → List UInt8} {day : Int} {lo : Nat → Int}
/-- A rig that may lift has all its items in date. -/
theorem less_day (he : wkE (vgB n gm gl gd gb && vrB n m gm lm lf) nk (brE nq lo (thN (enB m lf) m).length) day = 0) (hok : myB (wkE (vgB n gm gl gd gb && vrB n m gm lm lf) nk (brE nq lo (thN (enB m lf) m).length) day) (wkF n gm lm gl gd gb m lf day nk gs nq lo) m = true) : ∀ i, i < m → day ≤ gd (ixO n gm lm i) := fun i hi => by
  unfold myB wkL at hok
  rw [he] at hok
  simp only [decide_true, Bool.true_and, if_true, decide_eq_true_eq] at hok
  have h := thN_nil.1 hok i hi
  unfold wkF wkB at h
  simp only [Bool.or_eq_false_iff, decide_eq_false_iff_not] at h
  have := h.1.1
  omega
/-- A rig that may lift loads may lift lesser ones, on days when its items are in date. -/
theorem less_ok (he : wkE (vgB n gm gl gd gb && vrB n m gm lm lf) nk (brE nq lo (thN (enB m lf) m).length) day = 0) (hok : myB (wkE (vgB n gm gl gd gb && vrB n m gm lm lf) nk (brE nq lo (thN (enB m lf) m).length) day) (wkF n gm lm gl gd gb m lf day nk gs nq lo) m = true)
    {day' : Int} {lo' : Nat → Int} (hd : Btw day' 0 100000) (hdd : ∀ i, i < m → day' ≤ gd (ixO n gm lm i)) (hlo : ∀ i, i < nq → 0 ≤ lo' i ∧ lo' i ≤ lo i) :
    wkE (vgB n gm gl gd gb && vrB n m gm lm lf) nk (brE nq lo' (thN (enB m lf) m).length) day' = 0 ∧ myB (wkE (vgB n gm gl gd gb && vrB n m gm lm lf) nk (brE nq lo' (thN (enB m lf) m).length) day') (wkF n gm lm gl gd gb m lf day' nk gs nq lo') m = true := by
  obtain ⟨hb, hk, hc, _⟩ := wkE_zero he
  obtain ⟨hq, hl⟩ := brE_zero hc
  have hl' : LdOk nq lo' := fun i hi => by have := hl i hi; have := hlo i hi; omega
  have e' : brE nq lo' (thN (enB m lf) m).length = 0 := by unfold brE; rw [if_pos hq, if_pos hl']
  have he' : wkE (vgB n gm gl gd gb && vrB n m gm lm lf) nk (brE nq lo' (thN (enB m lf) m).length) day' = 0 := by
    unfold wkE
    rw [hb, if_pos rfl, if_neg (by omega), if_neg (by rw [e']; simp), if_pos hd]
  refine ⟨he', ?_⟩
  rw [he']
  unfold myB wkL at hok ⊢
  rw [he] at hok
  simp only [decide_true, Bool.true_and, if_true, decide_eq_true_eq] at hok ⊢
  rw [thN_nil] at hok ⊢
  intro i hi
  have h := hok i hi
  have hvr : vrB n m gm lm lf = true := by simp at hb; exact hb.2
  have hv := vr_lt hvr
  have hE := th_mem (p := enB m lf) (m := m)
  have hN := thN_nodup (enB m lf) m
  unfold wkF wkB at h ⊢
  simp only [Bool.or_eq_false_iff, decide_eq_false_iff_not] at h ⊢
  refine ⟨⟨by have := hdd i hi; omega, h.1.2⟩, ?_⟩
  have h3 := h.2
  rw [bo_rb hv hN hE hi nq (by omega)] at h3 ⊢
  have := rb_mono (lf := lf) (m := m) (lo := lo) (lo' := lo') (E := thN (enB m lf) m) i nq (by omega) (fun j hj => (hlo j (by omega)).2)
  omega
theorem end_last (hb : (vgB n gm gl gd gb && vrB n m gm lm lf) = true) : 1 ≤ (thN (enB m lf) m).length := by
  have hm := m_of hb
  have hvr : vrB n m gm lm lf = true := by simp at hb; exact hb.2
  have hv := vr_lt hvr
  have : m - 1 ∈ thN (enB m lf) m := by
    unfold thN
    refine List.mem_filter.2 ⟨List.mem_range.2 (by omega), enB_true (fun k hk e => by have := (hv k hk).1; omega)⟩
  exact List.length_pos_of_mem this
end
end Go.Proofs.YteojmhfocdlnoaaDoor.Tr
