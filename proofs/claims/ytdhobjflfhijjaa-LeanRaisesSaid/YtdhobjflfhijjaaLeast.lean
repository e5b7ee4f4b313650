/- The plain mathematics of 'no line is nearer'. -/
import Derived.Test.YtdhobjflfhijjaaBend
namespace Go.Proofs.Ytdhobjflfhijjaa

theorem alt_id (P Q R u v t m : Int) (e : Q * (u + v) - P * v - R * u = t) : (m - Q) * (u + v) + (m + P) * v + (m + R) * u = 2 * m * (u + v) - t := by
  subst e; grind
theorem alt_le {P Q R u v m t : Int} (hu : 1 ≤ u) (hv : 1 ≤ v) (e : Q * (u + v) - P * v - R * u = t) (hP : -m ≤ P) (hQ : Q ≤ m) (hR : -m ≤ R) : t ≤ 2 * m * (u + v) := by
  have i := alt_id P Q R u v t m e
  have a := Int.mul_nonneg (show 0 ≤ m - Q by omega) (show 0 ≤ u + v by omega)
  have b := Int.mul_nonneg (show 0 ≤ m + P by omega) (show 0 ≤ v by omega)
  have c := Int.mul_nonneg (show 0 ≤ m + R by omega) (show 0 ≤ u by omega)
  omega
theorem zero_of_mul {a b : Int} (h : a * b = 0) (hb : 1 ≤ b) : a = 0 := by
  rcases Int.mul_eq_zero.1 h with h | h
  · exact h
  · omega
theorem alt_eq {P Q R u v m t : Int} (hu : 1 ≤ u) (hv : 1 ≤ v) (e : Q * (u + v) - P * v - R * u = t) (hP : -m ≤ P) (hQ : Q ≤ m) (hR : -m ≤ R) (h : t = 2 * m * (u + v)) : Q = m ∧ P = -m ∧ R = -m := by
  have i := alt_id P Q R u v t m e
  have a := Int.mul_nonneg (show 0 ≤ m - Q by omega) (show 0 ≤ u + v by omega)
  have b := Int.mul_nonneg (show 0 ≤ m + P by omega) (show 0 ≤ v by omega)
  have c := Int.mul_nonneg (show 0 ≤ m + R by omega) (show 0 ≤ u by omega)
  have a0 := zero_of_mul (a := m - Q) (b := u + v) (by omega) (by omega)
  have b0 := zero_of_mul (a := m + P) (b := v) (by omega) (by omega)
  have c0 := zero_of_mul (a := m + R) (b := u) (by omega) (by omega)
  omega

/-- What a line misses three points by, and how much these bend. -/
theorem off_bul (a b d : Int) (p q r : Int × Int) :
    offV a b d q.1 q.2 * ((q.1 - p.1) + (r.1 - q.1)) - offV a b d p.1 p.2 * (r.1 - q.1) - offV a b d r.1 r.2 * (q.1 - p.1) = bul p q r * d := by
  unfold offV valV bul; grind

/-- A line that misses p, q, r alternately by the same is the one half way. -/
theorem alt_line {a b d s : Int} {p q r : Int × Int} (e1 : offV a b d p.1 p.2 = -s) (e2 : offV a b d r.1 r.2 = -s) (e3 : 2 * s * (r.1 - p.1) = bul p q r * d) :
    a * notD p r = notA p q r * d ∧ b * notD p r = notB p r * d := by
  have hb : b * (r.1 - p.1) = (r.2 - p.2) * d := by unfold offV valV at e1 e2; grind
  refine ⟨?_, ?_⟩
  · have ha : a = p.2 * d - b * p.1 + s := by unfold offV valV at e1; grind
    unfold notA notD
    have : a * (2 * (r.1 - p.1)) = 2 * (p.2 * d * (r.1 - p.1) - b * (r.1 - p.1) * p.1) + 2 * s * (r.1 - p.1) := by rw [ha]; grind
    rw [this, e3, hb]; grind
  · unfold notB notD; grind

theorem nat_le {x m : Int} (h : (x.natAbs : Int) ≤ m) : -m ≤ x ∧ x ≤ m := by omega

theorem least_three {ps : List (Int × Int)} (hG : GoodPts ps) (h3 : 3 ≤ ps.length) {a b d m : Int}
    (hm : ∀ i, i < ps.length → ((offV a b d (ptAt ps i).1 (ptAt ps i).2).natAbs : Int) ≤ m) :
    bstB ps * d ≤ 2 * m * ((bstR ps).1 - (bstP ps).1) ∧ -(bstB ps * d) ≤ 2 * m * ((bstR ps).1 - (bstP ps).1) ∧
    (bstB ps * d = 2 * m * ((bstR ps).1 - (bstP ps).1) ∨ -(bstB ps * d) = 2 * m * ((bstR ps).1 - (bstP ps).1) →
      a * nlD ps = nlA ps * d ∧ b * nlD ps = nlB ps * d) := by
  have hl := best_lt hG h3
  have ht := trips_mem (best_mem h3)
  have hP := nat_le (hm _ (show (bestTri ps).1 < ps.length by omega))
  have hQ := nat_le (hm _ (show (bestTri ps).2.1 < ps.length by omega))
  have hR := nat_le (hm _ (show (bestTri ps).2.2 < ps.length by omega))
  have e := off_bul a b d (bstP ps) (bstQ ps) (bstR ps)
  have hn : nlA ps = notA (bstP ps) (bstQ ps) (bstR ps) ∧ nlB ps = notB (bstP ps) (bstR ps) ∧ nlD ps = notD (bstP ps) (bstR ps) := by
    unfold nlA nlB nlD
    rw [if_neg (by omega), if_neg (by omega), if_neg (by omega), if_neg (by omega), if_neg (by omega), if_neg (by omega)]
    exact ⟨rfl, rfl, rfl⟩
  rw [hn.1, hn.2.1, hn.2.2]
  change -m ≤ offV a b d (bstP ps).1 (bstP ps).2 ∧ offV a b d (bstP ps).1 (bstP ps).2 ≤ m at hP
  change -m ≤ offV a b d (bstQ ps).1 (bstQ ps).2 ∧ offV a b d (bstQ ps).1 (bstQ ps).2 ≤ m at hQ
  change -m ≤ offV a b d (bstR ps).1 (bstR ps).2 ∧ offV a b d (bstR ps).1 (bstR ps).2 ≤ m at hR
  unfold bstB
  have key : ∀ s, offV a b d (bstP ps).1 (bstP ps).2 = -s → offV a b d (bstR ps).1 (bstR ps).2 = -s → 2 * s * ((bstR ps).1 - (bstP ps).1) = bul (bstP ps) (bstQ ps) (bstR ps) * d → _ := fun s h1 h2 h3 => alt_line (a := a) (b := b) (d := d) (p := bstP ps) (q := bstQ ps) (r := bstR ps) (s := s) h1 h2 h3
  generalize bstP ps = p at *
  generalize bstQ ps = q at *
  generalize bstR ps = r at *
  generalize offV a b d p.1 p.2 = P at *
  generalize offV a b d q.1 q.2 = Q at *
  generalize offV a b d r.1 r.2 = R at *
  have hw : r.1 - p.1 = (q.1 - p.1) + (r.1 - q.1) := by omega
  have e' : (-Q) * ((q.1 - p.1) + (r.1 - q.1)) - (-P) * (r.1 - q.1) - (-R) * (q.1 - p.1) = -(bul p q r * d) := by rw [← e]; grind
  rw [hw] at *
  refine ⟨alt_le (by omega) (by omega) e (by omega) (by omega) (by omega), alt_le (by omega) (by omega) e' (by omega) (by omega) (by omega), ?_⟩
  rintro (h | h)
  · have h1 := alt_eq (by omega) (by omega) e (by omega) (by omega) (by omega) h
    exact key m (by omega) (by omega) (by rw [show r.1 - p.1 = (q.1 - p.1) + (r.1 - q.1) by omega]; omega)
  · have h1 := alt_eq (by omega) (by omega) e' (by omega) (by omega) (by omega) h
    exact key (-m) (by omega) (by omega) (by rw [show r.1 - p.1 = (q.1 - p.1) + (r.1 - q.1) by omega, Int.mul_neg, Int.neg_mul]; omega)
theorem least_two {ps : List (Int × Int)} (hG : GoodPts ps) (h2 : ps.length = 2) {a b d : Int}
    (h0 : ∀ i, i < ps.length → offV a b d (ptAt ps i).1 (ptAt ps i).2 = 0) : a * nlD ps = nlA ps * d ∧ b * nlD ps = nlB ps * d := by
  obtain ⟨e1, e2, e3⟩ := nl_two h2
  rw [e1, e2, e3]
  have a0 := h0 0 (by omega)
  have a1 := h0 1 (by omega)
  have hl := goodPts_lt hG (i := 0) (j := 1) (by omega) (by omega)
  unfold offV valV at a0 a1
  unfold thrA thrB thrD
  generalize ptAt ps 0 = p at *
  generalize ptAt ps 1 = q at *
  have hb : b * (q.1 - p.1) = (q.2 - p.2) * d := by grind
  refine ⟨?_, hb⟩
  have ha : a = p.2 * d - b * p.1 := by omega
  have : a * (q.1 - p.1) = p.2 * d * (q.1 - p.1) - b * (q.1 - p.1) * p.1 := by rw [ha]; grind
  rw [this, hb]; grind
end Go.Proofs.Ytdhobjflfhijjaa
