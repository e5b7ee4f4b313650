/- GearMost: weighs, and what it says of the shares. -/
import Derived.Test.YteojmhfocdlnoaaDoorTrGgm
import Derived.Test.YteojmhfocdlnoaaDoorTrGmx
namespace Go.Proofs.YteojmhfocdlnoaaDoor.Tr
open Go.Proofs.YteojmhfocdlnoaaDoor
open Go.RowKit
attribute [local go_sem] After.cell After.frozen After.lt After.le After.ne After.ne' After.set_eq After.size_set After.lt_add tx_size tx_toList

theorem fi_of {n m : Nat} {gm : Nat → List UInt8} {gl gd : Nat → Int} {gb lm : Nat → List UInt8} {lf : Nat → Int} (h : (vgB n gm gl gd gb && vrB n m gm lm lf) = true) {i : Nat} (hi : i < m) : fiN n gm gl gd gb (lm i) = ((ixO n gm lm i : Nat) : Int) ∧ fiE n gm gl gd gb (lm i) = 0 ∧ ixO n gm lm i < n := by
  simp only [Bool.and_eq_true] at h
  have h1 := ((vrB_of h.2).2 i hi).1
  obtain ⟨j, hj⟩ := Option.ne_none_iff_exists'.1 h1
  have h2 := (fdN_some.1 hj).1
  have e : ixO n gm lm i = j := by unfold ixO; rw [hj]; rfl
  rw [e]
  refine ⟨?_, ?_, h2⟩
  · unfold fiN; rw [if_pos h.1, hj]
  · unfold fiE; rw [if_pos h.1, hj]
/-- Loads with which no link bears more than it can. -/
def WgF (m nq : Nat) (lf lo ld : Nat → Int) : Prop := nq = (thN (enB m lf) m).length ∧ LdOk nq lo ∧ ∀ i, i < m → boN lf m (owN lo (thN (enB m lf) m) nq) i ≤ ld i
/-- What weighs answers. -/
def WgA (m nq : Nat) (lf lo ld : Nat → Int) (e : Ending) : Prop :=
  (¬ WgF m nq lf lo ld ∧ e = .returned (.tuple #[.int .i64 0, .bool false])) ∨ (WgF m nq lf lo ld ∧ e = .returned (.tuple #[.int .i64 (boN lf m (owN lo (thN (enB m lf) m) nq) 0), .bool true]))
/-- P7.3: what the shares do. -/
theorem shares_facts {n m : Nat} {gm : Nat → List UInt8} {gl gd : Nat → Int} {gb lm : Nat → List UInt8} {lf : Nat → Int} (h : (vgB n gm gl gd gb && vrB n m gm lm lf) = true) :
    WgF m (shL n gm lm gl m lf).length lf (fun i => (shL n gm lm gl m lf).getD i 0) (fun i => gl (ixO n gm lm i)) ∧ boN lf m (owN (fun i => (shL n gm lm gl m lf).getD i 0) (thN (enB m lf) m) (shL n gm lm gl m lf).length) 0 = (shL n gm lm gl m lf).sum ∧ (shL n gm lm gl m lf).sum = gtN (fun i => gl (ixO n gm lm i)) lf m m 0 := by
  have hvr : vrB n m gm lm lf = true := by simp at h; exact h.2
  have hv := vr_lt hvr
  have hm1 := m_of h
  have hld := ld_of h
  have hE := th_mem (p := enB m lf) (m := m)
  have hN := thN_nodup (enB m lf) m
  have hr := vr_pos hvr
  have e1 := shL_list n gm lm gl m lf
  rw [e1]
  generalize (fun i => gl (ixO n gm lm i)) = ld at *
  have el : ((List.range (thN (enB m lf) m).length).map (ssN lf m ld (thN (enB m lf) m))).length = (thN (enB m lf) m).length := by simp
  have eg : ∀ i, i < (thN (enB m lf) m).length → ((List.range (thN (enB m lf) m).length).map (ssN lf m ld (thN (enB m lf) m))).getD i 0 = ssN lf m ld (thN (enB m lf) m) i := fun i hi => by
    rw [List.getD_eq_getElem?_getD, List.getElem?_map, List.getElem?_range hi]
    rfl
  have eb : ∀ i, i < m → boN lf m (owN (fun i => ((List.range (thN (enB m lf) m).length).map (ssN lf m ld (thN (enB m lf) m))).getD i 0) (thN (enB m lf) m) (thN (enB m lf) m).length) i = rbN lf m (ssN lf m ld (thN (enB m lf) m)) (thN (enB m lf) m) (thN (enB m lf) m).length i := fun i hi => by
    rw [bo_rb hv hN hE hi _ (Nat.le_refl _)]
    exact rb_congr i _ (fun j hj => eg j hj)
  have es : ((List.range (thN (enB m lf) m).length).map (ssN lf m ld (thN (enB m lf) m))).sum = rbN lf m (ssN lf m ld (thN (enB m lf) m)) (thN (enB m lf) m) (thN (enB m lf) m).length 0 := by
    rw [sum_range, rb_zero hv hr hE _ (Nat.le_refl _)]
  have ef : ∀ i, i < m → rbN lf m (ssN lf m ld (thN (enB m lf) m)) (thN (enB m lf) m) (thN (enB m lf) m).length i ≤ ld i := fun i hi => by
    have h1 := lf_rb hv (ld := ld) (E := thN (enB m lf) m) i _ (Nat.le_refl _)
    have h2 := (lf_ok hv hld hE (Nat.le_refl _) i hi).1
    omega
  rw [el]
  refine ⟨⟨rfl, fun i hi => by dsimp only; rw [eg i hi]; exact ss_bd hv hld hE hi, fun i hi => by rw [eb i hi]; exact ef i hi⟩, by rw [eb 0 hm1, es], ?_⟩
  rw [es]
  apply Int.le_antisymm
  · have h1 := bo_le_gt hv (ld := ld) (lo := ssN lf m ld (thN (enB m lf) m)) (Nat.le_refl _) (fun i hi => by rw [bo_rb hv hN hE hi _ (Nat.le_refl _)]; exact ef i hi) m 0 hm1
    rw [bo_rb hv hN hE hm1 _ (Nat.le_refl _)] at h1
    exact h1
  · refine gt_le_bo hv hld (fun i hi => (bo_rb hv hN hE hi _ (Nat.le_refl _)).symm) m 0 (by omega) hm1 (fun k hk _ => ?_)
    obtain ⟨j, h1, h2, h3⟩ := tight hv hld hE hk
    exact ⟨j, h1, h2, up_zero hv hr m j h2 h2, h3⟩
theorem other_le {n m : Nat} {gm : Nat → List UInt8} {gl gd : Nat → Int} {gb lm : Nat → List UInt8} {lf : Nat → Int} (h : (vgB n gm gl gd gb && vrB n m gm lm lf) = true) {nq : Nat} {lo : Nat → Int} (hf : WgF m nq lf lo (fun i => gl (ixO n gm lm i))) :
    boN lf m (owN lo (thN (enB m lf) m) nq) 0 ≤ (shL n gm lm gl m lf).sum := by
  have hvr : vrB n m gm lm lf = true := by simp at h; exact h.2
  rw [(shares_facts h).2.2]
  exact bo_le_gt (vr_lt hvr) (by rw [hf.1]; exact Nat.le_refl _) hf.2.2 m 0 (m_of h)
end Go.Proofs.YteojmhfocdlnoaaDoor.Tr
