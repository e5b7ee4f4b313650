/- The nearest line's greatest distance is half the narrowest strip's width. -/
import Derived.Test.YtdhobjflfhijjaaNarrow
namespace Go.Proofs.Ytdhobjflfhijjaa

theorem nl_three {ps : List (Int × Int)} (h3 : 3 ≤ ps.length) : nlA ps = 2 * dirV (bstP ps) (bstR ps) (bstP ps) + bstB ps ∧ nlB ps = 2 * ((bstR ps).2 - (bstP ps).2) ∧ nlD ps = 2 * ((bstR ps).1 - (bstP ps).1) := by
  refine ⟨?_, ?_, ?_⟩
  · unfold nlA
    rw [if_neg (by omega), if_neg (by omega)]
    change notA (bstP ps) (bstQ ps) (bstR ps) = _
    unfold notA bstB dirV
    grind
  · unfold nlB
    rw [if_neg (by omega), if_neg (by omega)]
    rfl
  · unfold nlD
    rw [if_neg (by omega), if_neg (by omega)]
    rfl

theorem nl_two {ps : List (Int × Int)} (h : ps.length = 2) : nlA ps = thrA (ptAt ps 0) (ptAt ps 1) ∧ nlB ps = thrB (ptAt ps 0) (ptAt ps 1) ∧ nlD ps = thrD (ptAt ps 0) (ptAt ps 1) := by
  refine ⟨?_, ?_, ?_⟩
  · unfold nlA; rw [if_neg (by omega), if_pos h]
  · unfold nlB; rw [if_neg (by omega), if_pos h]
  · unfold nlD; rw [if_neg (by omega), if_pos h]

theorem nl_in {ps : List (Int × Int)} (hG : GoodPts ps) : InBd (nlA ps) (nlB ps) (nlD ps) := by
  have hl := hG.1
  have hA : ∀ i, i < ps.length → InPt (ptAt ps i).1 (ptAt ps i).2 := fun i hi => goodPts_at hG i hi
  rcases (show ps.length = 1 ∨ ps.length = 2 ∨ 3 ≤ ps.length by omega) with h | h | h
  · have h0 := hA 0 (by omega)
    unfold InPt at h0
    unfold InBd nlA nlB nlD
    rw [if_pos h, if_pos h, if_pos h]
    omega
  · have e := nl_two h
    rw [e.1, e.2.1, e.2.2]
    exact thr_in (hA 0 (by omega)) (hA 1 (by omega)) (goodPts_lt hG (by omega) (by omega))
  · obtain ⟨eA, eB, eD⟩ := nl_three h
    obtain ⟨t1, t2, t3⟩ := trips_mem (best_mem h)
    obtain ⟨m1, m2⟩ := best_lt hG h
    have hp := hA (bestTri ps).1 (by omega)
    have hq := hA (bestTri ps).2.1 (by omega)
    have hr := hA (bestTri ps).2.2 (by omega)
    have hb := bul_bd hp hq hr
    change -8000000000 ≤ bstB ps ∧ bstB ps ≤ 8000000000 at hb
    change InPt (bstP ps).1 (bstP ps).2 at hp
    change InPt (bstR ps).1 (bstR ps).2 at hr
    rw [eA, eB, eD]
    unfold InPt at hp hr
    have k1 := prod_bd (a := (bstP ps).2) (b := (bstR ps).1 - (bstP ps).1) (A := 10000) (B := 200000) (by omega) (by omega) (by omega) (by omega)
    have k2 := prod_bd (a := (bstR ps).2 - (bstP ps).2) (b := (bstP ps).1) (A := 20000) (B := 200000) (by omega) (by omega) (by omega) (by omega)
    unfold InBd dirV
    omega

/-- What a point is off the nearest line, before the division. -/
theorem off_three {ps : List (Int × Int)} (h3 : 3 ≤ ps.length) (x : Int × Int) :
    offV (nlA ps) (nlB ps) (nlD ps) x.1 x.2 = 2 * dirV (bstP ps) (bstR ps) x - (2 * dirV (bstP ps) (bstR ps) (bstP ps) + bstB ps) := by
  obtain ⟨eA, eB, eD⟩ := nl_three h3
  rw [eA, eB, eD]
  unfold offV valV dirV
  grind

/-- No point is further off than half the bend, and the best triple's first is. -/
theorem far_three {ps : List (Int × Int)} (hG : GoodPts ps) (h3 : 3 ≤ ps.length) :
    IsHi (fun s => ((offV (nlA ps) (nlB ps) (nlD ps) (ptAt ps s).1 (ptAt ps s).2).natAbs : Int)) ps.length ((bstB ps).natAbs : Int) := by
  obtain ⟨t1, t2, t3⟩ := trips_mem (best_mem h3)
  constructor
  · refine ⟨(bestTri ps).1, by omega, ?_⟩
    dsimp only
    rw [off_three h3]
    change ((2 * dirV (bstP ps) (bstR ps) (bstP ps) - (2 * dirV (bstP ps) (bstR ps) (bstP ps) + bstB ps)).natAbs : Int) = _
    omega
  · intro s hs
    dsimp only
    rw [off_three h3]
    have := best_band hG h3 s hs
    omega

theorem hi_mul {f g : Nat → Int} {n : Nat} {c a : Int} (hc : 1 ≤ c) (e : ∀ s, c * f s = g s) (ha : IsHi f n a) : IsHi g n (c * a) := by
  obtain ⟨⟨s, hs, rfl⟩, h1⟩ := ha
  refine ⟨⟨s, hs, (e s).symm⟩, fun t ht => ?_⟩
  rw [← e t]
  exact Int.mul_le_mul_of_nonneg_left (h1 t ht) (by omega)

theorem abs_mk {ps : List (Int × Int)} (hG : GoodPts ps) (x : Int × Int) :
    (gcd3 (nlA ps) (nlB ps) (nlD ps) : Int) * ((offV (neA ps) (neB ps) (neD ps) x.1 x.2).natAbs : Int) = ((offV (nlA ps) (nlB ps) (nlD ps) x.1 x.2).natAbs : Int) := by
  have e : neA ps = mkA (nlA ps) (nlB ps) (nlD ps) ∧ neB ps = mkB (nlA ps) (nlB ps) (nlD ps) ∧ neD ps = mkD (nlA ps) (nlB ps) (nlD ps) := by simp [neA, neB, neD, hG]
  rw [e.1, e.2.1, e.2.2, ← off_mk (nl_in hG) x.1 x.2, Int.natAbs_mul, Int.natAbs_natCast, Int.natCast_mul]

theorem ne_mk {ps : List (Int × Int)} (hG : GoodPts ps) : neA ps = mkA (nlA ps) (nlB ps) (nlD ps) ∧ neB ps = mkB (nlA ps) (nlB ps) (nlD ps) ∧ neD ps = mkD (nlA ps) (nlB ps) (nlD ps) ∧ neE ps = 0 := by
  have := (mk_facts (nl_in hG)).err
  simp [neA, neB, neD, neE, hG, this]

/-- Of two points or more: the greatest distance of the nearest line, m over its third number, is half the narrowest strip's width. -/
theorem bend_one {ps : List (Int × Int)} (hG : GoodPts ps) (h2 : 2 ≤ ps.length) {m : Int}
    (hm : IsHi (fun s => ((offV (neA ps) (neB ps) (neD ps) (ptAt ps s).1 (ptAt ps s).2).natAbs : Int)) ps.length m) :
    ratN m (neD ps) = ratN (prHi ps (bestPr ps) - prLo ps (bestPr ps)) (2 * prD ps (bestPr ps)) ∧ ratD m (neD ps) = ratD (prHi ps (bestPr ps) - prLo ps (bestPr ps)) (2 * prD ps (bestPr ps)) := by
  have f := mk_facts (nl_in hG)
  have hd := prD_pos hG (bestPr_mem h2)
  have eD : neD ps = mkD (nlA ps) (nlB ps) (nlD ps) := (ne_mk hG).2.2.1
  have hD : 1 ≤ neD ps := by rw [eD]; have h0 := f.good.1; unfold InBd at h0; omega
  have xd := f.ed
  rw [← eD] at xd
  have hg := f.pos
  have hM := hi_mul hg (fun s => abs_mk hG (ptAt ps s)) hm
  refine rat_one hD (by omega) ?_
  rcases (show ps.length = 2 ∨ 3 ≤ ps.length by omega) with h | h
  · obtain ⟨_, _, e⟩ := narrow_two h
    have z : IsHi (fun s => ((offV (nlA ps) (nlB ps) (nlD ps) (ptAt ps s).1 (ptAt ps s).2).natAbs : Int)) ps.length 0 := by
      have e := nl_two h
      rw [e.1, e.2.1, e.2.2]
      have z0 := thr_off_left (ptAt ps 0) (ptAt ps 1)
      have z1 := thr_off_right (ptAt ps 0) (ptAt ps 1)
      refine ⟨⟨0, by omega, by dsimp only; rw [z0]; rfl⟩, fun s hs => ?_⟩
      rcases (show s = 0 ∨ s = 1 by omega) with rfl | rfl
      · dsimp only; rw [z0]; exact Int.le_refl _
      · dsimp only; rw [z1]; exact Int.le_refl _
    have k := isHi_one hM z
    have m0 : m = 0 := by
      rcases Int.mul_eq_zero.1 k with h | h
      · omega
      · exact h
    rw [m0, e]
    grind
  · have k := isHi_one hM (far_three hG h)
    obtain ⟨_, _, e⟩ := narrow_line hG h
    have e3 := (nl_three h).2.2
    obtain ⟨m1, m2⟩ := best_lt hG h
    generalize (gcd3 (nlA ps) (nlB ps) (nlD ps) : Int) = g at *
    generalize neD ps = N at *
    generalize hDD : (bstR ps).1 - (bstP ps).1 = D at *
    generalize prHi ps (bestPr ps) - prLo ps (bestPr ps) = W at *
    generalize prD ps (bestPr ps) = d at *
    have hp : g * D ≠ 0 := by
      have : 0 < g * D := Int.mul_pos (by omega) (by omega)
      omega
    refine Int.eq_of_mul_eq_mul_left hp ?_
    rw [← k] at e
    rw [e3] at xd
    grind

/-- The two programs' nearest lines are one. -/
theorem near_one {ps : List (Int × Int)} (hG : GoodPts ps) (h2 : 2 ≤ ps.length)
    (hI : InBd (prLo ps (bestPr ps) + prHi ps (bestPr ps)) (2 * prB ps (bestPr ps)) (2 * prD ps (bestPr ps))) :
    mkA (prLo ps (bestPr ps) + prHi ps (bestPr ps)) (2 * prB ps (bestPr ps)) (2 * prD ps (bestPr ps)) = neA ps ∧
    mkB (prLo ps (bestPr ps) + prHi ps (bestPr ps)) (2 * prB ps (bestPr ps)) (2 * prD ps (bestPr ps)) = neB ps ∧
    mkD (prLo ps (bestPr ps) + prHi ps (bestPr ps)) (2 * prB ps (bestPr ps)) (2 * prD ps (bestPr ps)) = neD ps := by
  obtain ⟨eA, eB, eD, _⟩ := ne_mk hG
  rw [eA, eB, eD]
  rcases (show ps.length = 2 ∨ 3 ≤ ps.length by omega) with h | h
  · obtain ⟨e1, e2, _⟩ := narrow_two h
    exact mk_one hI (nl_in hG) e1 e2
  · obtain ⟨e1, e2, _⟩ := narrow_line hG h
    exact mk_one hI (nl_in hG) e1 e2

theorem alV_bd {bb d : Int} {x : Int × Int} (hx : InPt x.1 x.2) (hb : -20000 ≤ bb ∧ bb ≤ 20000) (hd : 0 ≤ d ∧ d ≤ 200000) : -6000000000 ≤ alV bb d x ∧ alV bb d x ≤ 6000000000 := by
  unfold InPt at hx
  have k1 := prod_bd (a := x.2) (b := d) (A := 10000) (B := 200000) (by omega) (by omega) (by omega) (by omega)
  have k2 := prod_bd (a := bb) (b := x.1) (A := 20000) (B := 200000) (by omega) (by omega) (by omega) (by omega)
  unfold alV
  omega
theorem pr_bd {ps : List (Int × Int)} (hG : GoodPts ps) {x : Nat × Nat} (hx : x ∈ prs ps.length) :
    (-20000 ≤ prB ps x ∧ prB ps x ≤ 20000) ∧ (1 ≤ prD ps x ∧ prD ps x ≤ 200000) := by
  obtain ⟨h1, h2⟩ := prs_mem.1 hx
  have a1 : InPt (ptAt ps x.1).1 (ptAt ps x.1).2 := goodPts_at hG _ (by omega)
  have a2 : InPt (ptAt ps x.2).1 (ptAt ps x.2).2 := goodPts_at hG _ h2
  have hd := prD_pos hG hx
  unfold InPt at a1 a2
  unfold prD at hd
  unfold prB prD
  omega
theorem pr_val {ps : List (Int × Int)} (hG : GoodPts ps) {x : Nat × Nat} (hx : x ∈ prs ps.length) :
    (-6000000000 ≤ prLo ps x ∧ prLo ps x ≤ 6000000000) ∧ (-6000000000 ≤ prHi ps x ∧ prHi ps x ≤ 6000000000) := by
  obtain ⟨b1, b2⟩ := pr_bd hG hx
  obtain ⟨h1, h2⟩ := prs_mem.1 hx
  obtain ⟨⟨s, hs, es⟩, _⟩ := loTo_is (fun s => alV (prB ps x) (prD ps x) (ptAt ps s)) ps.length (by omega)
  obtain ⟨⟨t, ht, et⟩, _⟩ := hiTo_is (fun s => alV (prB ps x) (prD ps x) (ptAt ps s)) ps.length (by omega)
  change _ = prLo ps x at es
  change _ = prHi ps x at et
  rw [← es, ← et]
  exact ⟨alV_bd (goodPts_at hG _ hs) b1 (by omega), alV_bd (goodPts_at hG _ ht) b1 (by omega)⟩
theorem pr_in {ps : List (Int × Int)} (hG : GoodPts ps) (h2 : 2 ≤ ps.length) :
    InBd (prLo ps (bestPr ps) + prHi ps (bestPr ps)) (2 * prB ps (bestPr ps)) (2 * prD ps (bestPr ps)) := by
  have h := pr_val hG (bestPr_mem h2)
  have h' := pr_bd hG (bestPr_mem h2)
  unfold InBd
  omega

end Go.Proofs.Ytdhobjflfhijjaa
