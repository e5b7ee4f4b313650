/- TopRigs: P8 as mathematics. What TopRigs needs of layer 7: a top for cutover.py. -/
import Derived.Test.YteojmhfocdlnoaaDoorTrGmp
import Derived.Test.YteojmhfocdlnoaaDoorTrGut
import Derived.Test.YteojmhfocdlnoaaDoorTrGlk
import Derived.Test.YteojmhfocdlnoaaDoorTrGwg
import Derived.Test.YteojmhfocdlnoaaDoorTrGuu
import Derived.Test.YteojmhfocdlnoaaDoorTrGrw
namespace Go.Proofs.YteojmhfocdlnoaaDoor.Tr
open Go.Proofs.YteojmhfocdlnoaaDoor
end Go.Proofs.YteojmhfocdlnoaaDoor.Tr
namespace Go.Proofs.YteojmhfocdlnoaaDoor.Tr
open Go.Proofs.YteojmhfocdlnoaaDoor
open Go.RowKit

theorem wkE_ok {nk : Nat} {day : Int} (hk : nk ≤ 100) (hd : Btw day 0 100000) : wkE true nk 0 day = 0 := by
  unfold wkE
  rw [if_pos rfl, if_neg (by omega), if_neg (by simp), if_pos hd]
theorem my_yes {wk : Nat → Bool} {m : Nat} (h : ∀ i, i < m → wk i = false) : myB 0 wk m = true := by
  unfold myB wkL
  simp only [decide_true, Bool.true_and, if_true, decide_eq_true_eq]
  exact thN_nil.2 h
theorem my_no {wk : Nat → Bool} {m i : Nat} (hi : i < m) (h : wk i = true) : myB 0 wk m = false := by
  unfold myB wkL
  simp only [decide_true, Bool.true_and, if_true, decide_eq_false_iff_not]
  intro q
  rw [thN_nil.1 q i hi] at h
  cases h
section
variable {n m : Nat} {gm lm : Nat → List UInt8} {gl gd : Nat → Int} {gb : Nat → List UInt8} {lf : Nat → Int}
/-- The shares as a function. -/
def shF (n : Nat) (gm lm : Nat → List UInt8) (gl : Nat → Int) (m : Nat) (lf : Nat → Int) : Nat → Int := fun i => (shL n gm lm gl m lf).getD i 0
theorem tr_wg (h : (vgB n gm gl gd gb && vrB n m gm lm lf) = true) : WgF m (shL n gm lm gl m lf).length lf (shF n gm lm gl m lf) (fun i => gl (ixO n gm lm i)) := (shares_facts h).1
theorem tr_bre (h : (vgB n gm gl gd gb && vrB n m gm lm lf) = true) : brE (shL n gm lm gl m lf).length (shF n gm lm gl m lf) (thN (enB m lf) m).length = 0 := by
  obtain ⟨h1, h2, _⟩ := tr_wg h
  unfold brE
  rw [if_pos h1, if_pos h2]
theorem tr_day (h : (vgB n gm gl gd gb && vrB n m gm lm lf) = true) : Btw (unT (fun i => gd (ixO n gm lm i)) m) 0 100000 := unT_bd m (fun i hi => (dd_of h hi).1)
/-- The shares may hang on a day on which all items are in date. -/
theorem tr_may (h : (vgB n gm gl gd gb && vrB n m gm lm lf) = true) {gd' : Nat → Int} {gs : Nat → List UInt8} {day : Int} (hd : Btw day 0 100000) (hdd : ∀ i, i < m → day ≤ gd' (ixO n gm lm i)) :
    wkE true 0 (brE (shL n gm lm gl m lf).length (shF n gm lm gl m lf) (thN (enB m lf) m).length) day = 0 ∧
    myB (wkE true 0 (brE (shL n gm lm gl m lf).length (shF n gm lm gl m lf) (thN (enB m lf) m).length) day) (wkF n gm lm gl gd' gb m lf day 0 gs (shL n gm lm gl m lf).length (shF n gm lm gl m lf)) m = true := by
  rw [tr_bre h, wkE_ok (by omega) hd]
  refine ⟨rfl, my_yes fun i hi => ?_⟩
  unfold wkF wkB
  have h1 := hdd i hi
  have h2 := (tr_wg h).2.2 i hi
  dsimp only at h2
  simp only [Bool.or_eq_false_iff, decide_eq_false_iff_not]
  exact ⟨⟨by omega, rfl⟩, by omega⟩
/-- They may not when some item is out of date. -/
theorem tr_late (h : (vgB n gm gl gd gb && vrB n m gm lm lf) = true) {gs : Nat → List UInt8} {day : Int} (hd : Btw day 0 100000) (hu : unT (fun i => gd (ixO n gm lm i)) m < day) :
    wkE true 0 (brE (shL n gm lm gl m lf).length (shF n gm lm gl m lf) (thN (enB m lf) m).length) day = 0 ∧
    myB (wkE true 0 (brE (shL n gm lm gl m lf).length (shF n gm lm gl m lf) (thN (enB m lf) m).length) day) (wkF n gm lm gl gd gb m lf day 0 gs (shL n gm lm gl m lf).length (shF n gm lm gl m lf)) m = false := by
  rw [tr_bre h, wkE_ok (by omega) hd]
  refine ⟨rfl, ?_⟩
  have he : ∃ i, i < m ∧ gd (ixO n gm lm i) < day := by
    refine Classical.byContradiction fun hn => ?_
    have := unT_ge (g := fun i => gd (ixO n gm lm i)) hd.2 m (fun i hi => by
      rcases Int.lt_or_le (gd (ixO n gm lm i)) day with h1 | h1
      · exact absurd ⟨i, hi, h1⟩ hn
      · exact h1)
    omega
  obtain ⟨i, hi, hlt⟩ := he
  refine my_no hi ?_
  unfold wkF wkB
  simp only [Bool.or_eq_true, decide_eq_true_eq]
  exact .inl (.inl hlt)
theorem rb_upd {lf : Nat → Int} {m : Nat} {lo lo' : Nat → Int} {E : List Nat} {t i : Nat} (h : ∀ j, lo' j = if j = t then lo j + 1 else lo j) (hi : i ∈ upO lf m (E.getD t 0 : Nat)) : ∀ k, rbN lf m lo' E k i = rbN lf m lo E k i + (if t < k then 1 else 0)
  | 0 => by simp [rbN]
  | k + 1 => by
    have ih := rb_upd h hi k
    unfold rbN
    rw [ih, h k]
    by_cases e : k = t
    · subst e
      rw [if_pos hi, if_pos hi, if_pos rfl, if_neg (by omega), if_pos (by omega)]
      omega
    · rw [if_neg e]
      by_cases hlt : t < k
      · have h2 : t < k + 1 := by omega
        simp only [hlt, h2, if_true]; split <;> omega
      · have h2 : ¬ t < k + 1 := by omega
        simp only [hlt, h2, if_false]; split <;> omega
/-- One newton more at any end may not hang. -/
theorem tr_more (h : (vgB n gm gl gd gb && vrB n m gm lm lf) = true) {gs : Nat → List UInt8} {day : Int} (hd : Btw day 0 100000) {t : Nat} (ht : t < (shL n gm lm gl m lf).length) {lo' : Nat → Int} (hlo : ∀ j, lo' j = if j = t then shF n gm lm gl m lf j + 1 else shF n gm lm gl m lf j) :
    ∃ e, wkE true 0 (brE (shL n gm lm gl m lf).length lo' (thN (enB m lf) m).length) day = e ∧ (e = 0 ∨ e = 7) ∧
    myB (wkE true 0 (brE (shL n gm lm gl m lf).length lo' (thN (enB m lf) m).length) day) (wkF n gm lm gl gd gb m lf day 0 gs (shL n gm lm gl m lf).length lo') m = false := by
  obtain ⟨h1, h2, h3⟩ := tr_wg h
  by_cases hl : LdOk (shL n gm lm gl m lf).length lo'
  · have e1 : brE (shL n gm lm gl m lf).length lo' (thN (enB m lf) m).length = 0 := by unfold brE; rw [if_pos h1, if_pos hl]
    rw [e1, wkE_ok (by omega) hd]
    refine ⟨0, rfl, .inl rfl, ?_⟩
    have hvr : vrB n m gm lm lf = true := by simp at h; exact h.2
    have hv := vr_lt hvr
    have hld := ld_of h
    have hE := th_mem (p := enB m lf) (m := m)
    have hN := thN_nodup (enB m lf) m
    have eL := shL_list n gm lm gl m lf
    have htE : t < (thN (enB m lf) m).length := by omega
    obtain ⟨j, j1, j2, j3⟩ := tight hv hld hE htE
    refine my_no j2 ?_
    have es : ∀ i, i < (thN (enB m lf) m).length → shF n gm lm gl m lf i = ssN lf m (fun i => gl (ixO n gm lm i)) (thN (enB m lf) m) i := fun i hi => by
      unfold shF
      rw [eL, List.getD_eq_getElem?_getD, List.getElem?_map, List.getElem?_range hi]
      rfl
    have e2 := rb_upd hlo j1 (thN (enB m lf) m).length
    rw [if_pos htE, rb_congr j _ es, j3] at e2
    unfold wkF wkB
    simp only [Bool.or_eq_true, decide_eq_true_eq]
    refine .inr ?_
    rw [bo_rb hv hN hE j2 _ (by omega), h1, e2]
    show gl (ixO n gm lm j) < gl (ixO n gm lm j) + 1
    omega
  · have e1 : brE (shL n gm lm gl m lf).length lo' (thN (enB m lf) m).length = 7 := by unfold brE; rw [if_pos h1, if_neg hl]
    rw [e1]
    refine ⟨7, rfl, .inr rfl, ?_⟩
    have e3 : wkE true 0 7 day = 7 := rfl
    rw [e3]
    rfl
/-- Gear with another day is valid. -/
theorem vg_upd (h : vgB n gm gl gd gb = true) {i : Nat} {d : Int} (hd : Btw d 0 100000) : vgB n gm gl (updF gd i d) gb = true := by
  obtain ⟨h1, h2⟩ := vgB_of h
  refine vgB_true ⟨h1, fun k hk => ?_⟩
  obtain ⟨h3, h4⟩ := h2 k hk
  refine ⟨?_, h4⟩
  unfold okI at h3 ⊢
  simp only [Bool.and_eq_true, decide_eq_true_eq] at h3 ⊢
  refine ⟨⟨h3.1.1, ?_⟩, h3.2⟩
  unfold updF
  split
  · exact hd
  · exact h3.1.2
theorem lk_ok (h : (vgB n gm gl gd gb && vrB n m gm lm lf) = true) {i : Nat} (hi : i < m) : fdN gm n (lm i) = some (ixO n gm lm i) := by
  simp only [Bool.and_eq_true] at h
  have h1 := ((vrB_of h.2).2 i hi).1
  obtain ⟨j, hj⟩ := Option.ne_none_iff_exists'.1 h1
  unfold ixO
  rw [hj]; rfl
theorem lkE_ok {o : Option Nat} {j : Nat} {d : Int} (h : o = some j) (hd : Btw d 0 100000) : lkE true o d = 0 := by
  unfold lkE
  rw [if_pos rfl, if_pos hd, h]
end
end Go.Proofs.YteojmhfocdlnoaaDoor.Tr
