/- Points of which some are left out bend no more: the plain mathematics. -/
import Derived.Test.YtdhobjflfhijjaaLeastb
namespace Go.Proofs.Ytdhobjflfhijjaa

theorem good_pair {ps : List (Int × Int)} (hG : GoodPts ps) : ps.Pairwise (fun p q => p.1 < q.1) := by
  rw [List.pairwise_iff_getElem]
  intro i j hi hj hij
  have := goodPts_lt hG hij hj
  unfold ptAt at this
  rw [List.getD_eq_getElem?_getD, List.getD_eq_getElem?_getD, List.getElem?_eq_getElem hi, List.getElem?_eq_getElem hj] at this
  exact this
theorem good_mem {ps : List (Int × Int)} (hG : GoodPts ps) {p : Int × Int} (hp : p ∈ ps) : InPt p.1 p.2 := by
  obtain ⟨i, hi, rfl⟩ := List.getElem_of_mem hp
  have := goodPts_at hG i hi
  rw [List.getD_eq_getElem?_getD, List.getElem?_eq_getElem hi] at this
  exact this
theorem getD_of_lt {ps : List (Int × Int)} {i : Nat} (hi : i < ps.length) : ps.getD i (0, 0) = ps[i] := by
  rw [List.getD_eq_getElem?_getD, List.getElem?_eq_getElem hi]; rfl
theorem good_sub {ps qs : List (Int × Int)} (hG : GoodPts ps) (hs : qs.Sublist ps) (h1 : 0 < qs.length) : GoodPts qs := by
  have hp := (good_pair hG).sublist hs
  refine ⟨h1, Nat.le_trans hs.length_le hG.2.1, fun k hk => ⟨?_, fun h0 => ?_⟩⟩
  · rw [getD_of_lt hk]
    exact good_mem hG (hs.subset (List.getElem_mem hk))
  · rw [getD_of_lt hk, getD_of_lt (show k - 1 < qs.length by omega)]
    exact List.pairwise_iff_getElem.1 hp (k - 1) k (by omega) hk (by omega)
theorem woF_sub {x : Int × Int × Int} {ps qs : List (Int × Int)} (hs : qs.Sublist ps) (h1 : 0 < qs.length) : woF x qs ≤ woF x ps := by
  obtain ⟨⟨s, hs1, e⟩, _⟩ := woF_hi x h1
  have hn : 0 < ps.length := Nat.lt_of_lt_of_le h1 hs.length_le
  rw [← e]
  have hm : qs[s] ∈ ps := hs.subset (List.getElem_mem hs1)
  obtain ⟨i, hi, ei⟩ := List.getElem_of_mem hm
  have := (woF_hi x hn).2 i hi
  show farV x (ptAt qs s) ≤ _
  unfold ptAt at *
  rw [getD_of_lt hs1, ← ei, ← getD_of_lt hi]
  exact this
theorem cmp3_le {a b : Int} (h : a ≤ b) : cmp3 a b ≤ 0 := by
  unfold cmp3
  split
  · omega
  · split <;> omega
/-- The lesser bend, compared with the greater one. -/
theorem fewer_cmp {ps qs : List (Int × Int)} (hG : GoodPts ps) (hs : qs.Sublist ps) (h1 : 0 < qs.length) :
    cmpR (ratN (woF (neL qs) qs) (neL qs).2.2) (ratD (woF (neL qs) qs) (neL qs).2.2) (ratN (woF (neL ps) ps) (neL ps).2.2) (ratD (woF (neL ps) ps) (neL ps).2.2) ≤ 0 := by
  have hQ := good_sub hG hs h1
  rw [cmp_rat (d := (neL qs).2.2) (D := (neL ps).2.2) (neL_D hQ) (neL_D hG)]
  refine cmp3_le ?_
  have a := (least_main (x := neL ps) (neL_good hG) hQ).1
  have b := Int.mul_le_mul_of_nonneg_right (woF_sub (x := neL ps) hs h1) (show 0 ≤ neD qs by have := neL_D hQ; omega)
  exact Int.le_trans a b
theorem ratN_iff {n d : Int} (hd : 1 ≤ d) : ratN n d = 0 ↔ n = 0 := by
  obtain ⟨e1, _, e3, _, _⟩ := rat_facts (n := n) hd
  constructor
  · intro h; rw [h] at e1; omega
  · intro h
    rw [h] at e1
    rcases Int.mul_eq_zero.1 e1 with h2 | h2
    · rw [h] at e3; omega
    · rw [h]; exact h2
theorem far_cmp {ps : List (Int × Int)} (hG : GoodPts ps) {i : Nat} (hi : i < ps.length) :
    cmpR (ratN (farV (neL ps) (ptAt ps i)) (neL ps).2.2) (ratD (farV (neL ps) (ptAt ps i)) (neL ps).2.2) (ratN (woF (neL ps) ps) (neL ps).2.2) (ratD (woF (neL ps) ps) (neL ps).2.2) ≤ 0 := by
  rw [cmp_rat (d := (neL ps).2.2) (D := (neL ps).2.2) (neL_D hG) (neL_D hG)]
  exact cmp3_le (Int.mul_le_mul_of_nonneg_right ((woF_hi (neL ps) hG.1).2 i hi) (by have := neL_D hG; show 0 ≤ neD ps; omega))
theorem far_all {ps : List (Int × Int)} (hG : GoodPts ps) : (∀ i, i < ps.length → ratN (farV (neL ps) (ptAt ps i)) (neL ps).2.2 = 0) ↔ ratN (woF (neL ps) ps) (neL ps).2.2 = 0 := by
  have hD : 1 ≤ (neL ps).2.2 := neL_D hG
  obtain ⟨⟨s, hs, e⟩, h2⟩ := woF_hi (neL ps) (ps := ps) hG.1
  rw [ratN_iff hD]
  constructor
  · intro h
    have := (ratN_iff hD).1 (h s hs)
    rw [← e]; exact this
  · intro h i hi
    rw [ratN_iff hD]
    have := h2 i hi
    dsimp only at this
    rw [h] at this
    have : 0 ≤ farV (neL ps) (ptAt ps i) := by unfold farV; omega
    omega
end Go.Proofs.Ytdhobjflfhijjaa
