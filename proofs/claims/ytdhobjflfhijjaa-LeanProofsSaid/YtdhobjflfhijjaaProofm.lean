/- A line with a proof is the nearest one: the plain mathematics. -/
import Derived.Test.YtdhobjflfhijjaaProv
namespace Go.Proofs.Ytdhobjflfhijjaa

theorem cancel_le {b D d m m' w : Int} (hw : 1 ≤ w) (hd : 1 ≤ d) (_hD : 1 ≤ D) (e : b * d = 2 * m * w) (h : b * D ≤ 2 * m' * w) : m * D ≤ m' * d := by
  have h1 : b * D * d ≤ 2 * m' * w * d := Int.mul_le_mul_of_nonneg_right h (by omega)
  have h2 : b * D * d = (2 * w) * (m * D) := by
    have : b * D * d = b * d * D := by grind
    rw [this, e]; grind
  have h3 : 2 * m' * w * d = (2 * w) * (m' * d) := by grind
  rw [h2, h3] at h1
  exact Int.le_of_mul_le_mul_left h1 (by omega)

theorem proof_near {x : Int × Int × Int} {ps : List (Int × Int)} {t : Tri} (hL : GoodLine x.1 x.2.1 x.2.2) (hG : GoodPts ps) (h1 : t.1 < t.2.1) (h2 : t.2.1 < t.2.2) (h3 : t.2.2 < ps.length)
    (hp : prfB x ps (woF x ps) t = true) : x = neL ps := by
  obtain ⟨m1, m2⟩ := least_main (x := x) hL hG
  refine m2 (by omega) (Int.le_antisymm m1 ?_)
  have hd : 1 ≤ x.2.2 := (inBd_d hL.1).1
  have hD : 1 ≤ neD ps := neL_D hG
  have l1 := goodPts_lt hG h1 (by omega)
  have l2 := goodPts_lt hG h2 h3
  have hn := woF_hi (neL ps) (ps := ps) hG.1
  have a1 := nat_le (hn.2 t.1 (by omega))
  have a2 := nat_le (hn.2 t.2.1 (by omega))
  have a3 := nat_le (hn.2 t.2.2 (by omega))
  have ex := off_bul x.1 x.2.1 x.2.2 (ptAt ps t.1) (ptAt ps t.2.1) (ptAt ps t.2.2)
  have en := off_bul (neL ps).1 (neL ps).2.1 (neL ps).2.2 (ptAt ps t.1) (ptAt ps t.2.1) (ptAt ps t.2.2)
  unfold prfB prf3 offP at hp
  rw [decide_eq_true_iff] at hp
  obtain ⟨p1, p2, p3⟩ := hp
  rw [p2, p3] at ex
  have eD : (neL ps).2.2 = neD ps := rfl
  generalize woF (neL ps) ps = m' at *
  generalize woF x ps = m at *
  generalize x.2.2 = d at *
  generalize offV x.1 x.2.1 d (ptAt ps t.1).1 (ptAt ps t.1).2 = P at *
  generalize bul (ptAt ps t.1) (ptAt ps t.2.1) (ptAt ps t.2.2) = b at *
  generalize offV (neL ps).1 (neL ps).2.1 (neL ps).2.2 (ptAt ps t.1).1 (ptAt ps t.1).2 = P' at *
  generalize offV (neL ps).1 (neL ps).2.1 (neL ps).2.2 (ptAt ps t.2.1).1 (ptAt ps t.2.1).2 = Q' at *
  generalize offV (neL ps).1 (neL ps).2.1 (neL ps).2.2 (ptAt ps t.2.2).1 (ptAt ps t.2.2).2 = R' at *
  rw [eD] at en
  clear eD
  generalize neD ps = D at *
  generalize hu : (ptAt ps t.2.1).1 - (ptAt ps t.1).1 = u at *
  generalize hv : (ptAt ps t.2.2).1 - (ptAt ps t.2.1).1 = v at *
  have u1 : 1 ≤ u := by omega
  have v1 : 1 ≤ v := by omega
  rcases (show P = m ∨ P = -m by omega) with h | h
  · subst h
    refine cancel_le (b := -b) (w := u + v) (by omega) hd hD ?_ ?_
    · rw [Int.neg_mul, ← ex]; grind
    · exact alt_le (Q := -Q') (P := -P') (R := -R') (t := -b * D) u1 v1 (by rw [Int.neg_mul b D, ← en]; grind) (by omega) (by omega) (by omega)
  · subst h
    refine cancel_le (b := b) (w := u + v) (by omega) hd hD ?_ ?_
    · rw [← ex]; grind
    · exact alt_le (Q := Q') (P := P') (R := R') u1 v1 en (by omega) (by omega) (by omega)
end Go.Proofs.Ytdhobjflfhijjaa
