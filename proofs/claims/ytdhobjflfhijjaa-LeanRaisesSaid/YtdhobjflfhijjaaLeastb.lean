/- The plain mathematics of 'no line is nearer', over the program's own numbers. -/
import Derived.Test.YtdhobjflfhijjaaBendc
import Derived.Test.YtdhobjflfhijjaaLeast
namespace Go.Proofs.Ytdhobjflfhijjaa

theorem woF_hi (x : Int × Int × Int) {ps : List (Int × Int)} (h : 0 < ps.length) : IsHi (fun s => farV x (ptAt ps s)) ps.length (woF x ps) := by
  refine ⟨⟨worI x ps, worI_lt h, rfl⟩, fun s hs => ?_⟩
  have := bestTo_best (farC x ps) (n := ps.length) (fun i j k _ _ _ h1 h2 => by rw [farC_pos] at *; omega) (fun i j _ _ h1 => by rw [farC_pos] at *; omega) ps.length (Nat.le_refl _) s hs
  rw [farC_pos] at this
  show farV x (ptAt ps s) ≤ farV x (ptAt ps (bestTo (farC x ps) ps.length))
  omega
theorem cmp3_mul {a b k : Int} (hk : 1 ≤ k) : cmp3 (k * a) (k * b) = cmp3 a b := by
  have h1 : k * a < k * b ↔ a < b := by
    constructor
    · intro h; exact Int.lt_of_mul_lt_mul_left h (by omega)
    · intro h; exact Int.mul_lt_mul_of_pos_left h (by omega)
  have h2 : k * b < k * a ↔ b < a := by
    constructor
    · intro h; exact Int.lt_of_mul_lt_mul_left h (by omega)
    · intro h; exact Int.mul_lt_mul_of_pos_left h (by omega)
  unfold cmp3
  simp only [h1, h2]
theorem cmp_rat {F d M D : Int} (hd : 1 ≤ d) (hD : 1 ≤ D) : cmpR (ratN F d) (ratD F d) (ratN M D) (ratD M D) = cmp3 (F * D) (M * d) := by
  obtain ⟨e1, e2, e3, e4, _⟩ := rat_facts (n := F) hd
  obtain ⟨f1, f2, f3, f4, _⟩ := rat_facts (n := M) hD
  unfold cmpR
  rw [show max (ratD M D) 1 = ratD M D by omega, show max (ratD F d) 1 = ratD F d by omega]
  have hk : (1 : Int) ≤ (Int.gcd F d : Int) * (Int.gcd M D : Int) := by
    have := Int.mul_pos (show (0 : Int) < Int.gcd F d by omega) (show (0 : Int) < Int.gcd M D by omega)
    omega
  rw [← cmp3_mul hk]
  congr 1
  · generalize (Int.gcd F d : Int) = g at *
    generalize (Int.gcd M D : Int) = k at *
    rw [← f2, ← e1]
    grind
  · generalize (Int.gcd F d : Int) = g at *
    generalize (Int.gcd M D : Int) = k at *
    rw [← f1, ← e2]
    grind

theorem neL_D {ps : List (Int × Int)} (hG : GoodPts ps) : 1 ≤ neD ps := by
  have := (neL_good hG).1
  change InBd (neA ps) (neB ps) (neD ps) at this
  unfold InBd at this; omega
theorem neL_nl {ps : List (Int × Int)} (hG : GoodPts ps) : ∃ g : Int, 1 ≤ g ∧ g * neA ps = nlA ps ∧ g * neB ps = nlB ps ∧ g * neD ps = nlD ps ∧ ∀ p : Int × Int, g * farV (neL ps) p = ((offV (nlA ps) (nlB ps) (nlD ps) p.1 p.2).natAbs : Int) := by
  have f := mk_facts (nl_in hG)
  obtain ⟨e1, e2, e3, _⟩ := ne_mk hG
  exact ⟨_, f.pos, by rw [e1]; exact f.ea, by rw [e2]; exact f.eb, by rw [e3]; exact f.ed, fun p => abs_mk hG p⟩

/-- No line has a lesser greatest distance; of two points or more, none but the nearest one has the same. -/
theorem least_main {x : Int × Int × Int} {ps : List (Int × Int)} (hL : GoodLine x.1 x.2.1 x.2.2) (hG : GoodPts ps) :
    woF (neL ps) ps * x.2.2 ≤ woF x ps * neD ps ∧ (2 ≤ ps.length → woF (neL ps) ps * x.2.2 = woF x ps * neD ps → x = neL ps) := by
  obtain ⟨g, hg, gA, gB, gD, gF⟩ := neL_nl hG
  have hD := neL_D hG
  have hd : 1 ≤ x.2.2 := (inBd_d hL.1).1
  have hx := woF_hi x (ps := ps) hG.1
  have hn := woF_hi (neL ps) (ps := ps) hG.1
  have hx0 : 0 ≤ woF x ps := by unfold woF farV; omega
  have one : 2 ≤ ps.length → x.1 * nlD ps = nlA ps * x.2.2 → x.2.1 * nlD ps = nlB ps * x.2.2 → x = neL ps := fun _ ha hb => by
    have ng := neL_good hG
    have := red_one (A := x.1) (B := x.2.1) (D := x.2.2) (A' := neA ps) (B' := neB ps) (D' := neD ps) hd hD hL.2 ng.2
      (by rw [← gA, ← gD] at ha; exact Int.eq_of_mul_eq_mul_left (show g ≠ 0 by omega) (by grind))
      (by rw [← gB, ← gD] at hb; exact Int.eq_of_mul_eq_mul_left (show g ≠ 0 by omega) (by grind))
    obtain ⟨xa, xb, xd⟩ := x
    unfold neL
    simp only at this ⊢
    rw [this.1, this.2.1, this.2.2]
  have hx' : ∀ i, i < ps.length → ((offV x.1 x.2.1 x.2.2 (ptAt ps i).1 (ptAt ps i).2).natAbs : Int) ≤ woF x ps := fun i hi => hx.2 i hi
  rcases (show ps.length = 1 ∨ ps.length = 2 ∨ 3 ≤ ps.length by have := hG.1; omega) with h | h | h
  · have z : woF (neL ps) ps = 0 := by
      obtain ⟨⟨s, hs, e⟩, _⟩ := hn
      have k := gF (ptAt ps s)
      obtain rfl : s = 0 := by omega
      have : offV (nlA ps) (nlB ps) (nlD ps) (ptAt ps 0).1 (ptAt ps 0).2 = 0 := by simp [nlA, nlB, nlD, h, offV, valV]
      rw [this] at k
      rw [← e]
      exact (Int.mul_eq_zero.1 k).resolve_left (by omega)
    rw [z, Int.zero_mul]
    exact ⟨Int.mul_nonneg hx0 (by omega), fun h2 => by omega⟩
  · have z : woF (neL ps) ps = 0 := by
      obtain ⟨⟨s, hs, e⟩, _⟩ := hn
      have k := gF (ptAt ps s)
      obtain ⟨a1, a2, a3⟩ := nl_two h
      have z0 := thr_off_left (ptAt ps 0) (ptAt ps 1)
      have z1 := thr_off_right (ptAt ps 0) (ptAt ps 1)
      rw [a1, a2, a3] at k
      rw [← e]
      rcases (show s = 0 ∨ s = 1 by omega) with rfl | rfl
      · rw [z0] at k; exact (Int.mul_eq_zero.1 k).resolve_left (by omega)
      · rw [z1] at k; exact (Int.mul_eq_zero.1 k).resolve_left (by omega)
    rw [z, Int.zero_mul]
    refine ⟨Int.mul_nonneg hx0 (by omega), fun h2 e => ?_⟩
    have hz : woF x ps = 0 := (Int.mul_eq_zero.1 e.symm).resolve_right (by omega)
    rw [hz] at hx'
    obtain ⟨k1, k2⟩ := least_two hG h (a := x.1) (b := x.2.1) (d := x.2.2) (fun i hi => by have := hx' i hi; omega)
    exact one h2 k1 k2
  · obtain ⟨k1, k2, k3⟩ := least_three hG h (a := x.1) (b := x.2.1) (d := x.2.2) hx'
    have e3 := (nl_three h).2.2
    have hM := isHi_one (hi_mul hg (fun s => gF (ptAt ps s)) hn) (far_three hG h)
    have hl := best_lt hG h
    generalize (bstR ps).1 - (bstP ps).1 = u at *
    have hu : 1 ≤ u := by have : 0 < g * neD ps := Int.mul_pos (by omega) (by omega); omega
    generalize bstB ps = B at *
    generalize woF (neL ps) ps = M at *
    generalize woF x ps = F at *
    generalize neD ps = D at *
    generalize x.2.2 = d at *
    have key : (2 * u) * (M * d) = (B.natAbs * d) * D := by
      have : g * D = 2 * u := by omega
      rw [← this, ← hM]; grind
    have hab : (B.natAbs * d : Int) ≤ 2 * F * u := by
      rcases Int.natAbs_eq B with h | h
      · rw [← h]; exact k1
      · have : (B.natAbs : Int) = -B := by omega
        rw [this, Int.neg_mul]; exact k2
    refine ⟨?_, fun h2 e => ?_⟩
    · have := Int.mul_le_mul_of_nonneg_right hab (show 0 ≤ D by omega)
      rw [← key] at this
      refine Int.le_of_mul_le_mul_left (a := 2 * u) ?_ (by omega)
      grind
    · rw [e] at key
      have : (B.natAbs * d : Int) = 2 * F * u := Int.eq_of_mul_eq_mul_right (show D ≠ 0 by omega) (by rw [← key]; grind)
      have h0 := k3 (by
        rcases Int.natAbs_eq B with h | h
        · exact .inl (by rw [← this, ← h])
        · refine .inr ?_
          rw [← this, show (B.natAbs : Int) = -B by omega, Int.neg_mul])
      exact one h2 h0.1 h0.2
end Go.Proofs.Ytdhobjflfhijjaa
