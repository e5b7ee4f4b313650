/- Points raised by a line: plain facts. -/
import Derived.Test.YtdhobjflfhijjaaBendc
import Derived.Test.YtdhobjflfhijjaaLeastb
import Derived.Test.YtdhobjflfhijjaaRnear
namespace Go.Proofs.Ytdhobjflfhijjaa

def downV (n d : Int) : Int := if n.tmod d < 0 then n.tdiv d - 1 else n.tdiv d
theorem downV_one (n : Int) : downV n 1 = n := by simp [downV]
def upP (a b d : Int) (p : Int × Int) : Int × Int := (p.1, p.2 + downV (valV a b p.1) d)
def upL (a b d : Int) (ps : List (Int × Int)) : List (Int × Int) := ps.map (upP a b d)
theorem upL_len {a b d : Int} {ps : List (Int × Int)} : (upL a b d ps).length = ps.length := by simp [upL]
theorem upL_at {a b d : Int} {ps : List (Int × Int)} {i : Nat} (h : i < ps.length) : (upL a b d ps).getD i (0, 0) = upP a b d (ps.getD i (0, 0)) := by
  simp [upL, h]
theorem up_ptAt {a b d : Int} {ps : List (Int × Int)} {i : Nat} (h : i < ps.length) : ptAt (upL a b d ps) i = upP a b d (ptAt ps i) := upL_at h
theorem up_good {a b d : Int} {ps : List (Int × Int)} (hG : GoodPts ps) (hA : ∀ i, i < ps.length → InPt (upP a b d (ps.getD i (0, 0))).1 (upP a b d (ps.getD i (0, 0))).2) : GoodPts (upL a b d ps) := by
  refine ⟨by rw [upL_len]; exact hG.1, by rw [upL_len]; exact hG.2.1, fun k hk => ?_⟩
  rw [upL_len] at hk
  refine ⟨by rw [upL_at hk]; exact hA k hk, fun h0 => ?_⟩
  rw [upL_at hk, upL_at (by omega)]
  exact (hG.2.2 k hk).2 h0

theorem bestTo_congr {f g : Nat → Nat → Int} : ∀ n, (∀ i j, i < n → j < n → f i j = g i j) → bestTo f n = bestTo g n
  | 0, _ => rfl
  | k + 1, h => by
    have e := bestTo_congr k (fun i j hi hj => h i j (by omega) (by omega))
    unfold bestTo
    rw [← e]
    have hl : bestTo f k < k + 1 := by
      rcases Nat.eq_zero_or_pos k with rfl | hk
      · simp [bestTo]
      · have := bestTo_lt f k hk; omega
    rw [h k (bestTo f k) (by omega) hl]
theorem bul_up (a b : Int) (p q r : Int × Int) : bul (upP a b 1 p) (upP a b 1 q) (upP a b 1 r) = bul p q r := by
  simp only [bul, upP, downV_one, valV]
  grind
theorem best_up {a b : Int} {ps : List (Int × Int)} : bestTri (upL a b 1 ps) = bestTri ps := by
  unfold bestTri
  rw [upL_len]
  refine congrArg _ (bestTo_congr _ fun i j hi hj => ?_)
  have hti := trips_mem (triAt_mem hi)
  have htj := trips_mem (triAt_mem hj)
  generalize triAt (trips ps.length) i = x at *
  generalize triAt (trips ps.length) j = y at *
  unfold cmpB bowN bowD
  simp only [upL_at (show x.1 < ps.length by omega), upL_at (show x.2.1 < ps.length by omega), upL_at (show x.2.2 < ps.length by omega), upL_at (show y.1 < ps.length by omega), upL_at (show y.2.1 < ps.length by omega), upL_at (show y.2.2 < ps.length by omega), bul_up]
  rfl
theorem nl_up {a b : Int} {ps : List (Int × Int)} (h1 : 1 ≤ ps.length) (h : 2 ≤ ps.length ∨ b = 0) :
    nlA (upL a b 1 ps) = nlA ps + a * nlD ps ∧ nlB (upL a b 1 ps) = nlB ps + b * nlD ps ∧ nlD (upL a b 1 ps) = nlD ps := by
  unfold nlA nlB nlD
  rw [upL_len, best_up]
  rcases (show ps.length = 1 ∨ ps.length = 2 ∨ 3 ≤ ps.length by omega) with e | e | e
  · obtain rfl : b = 0 := by omega
    simp only [e, if_true, up_ptAt (show 0 < ps.length by omega)]
    simp [upP, downV_one, valV]
  · simp only [e, up_ptAt (show 0 < ps.length by omega), up_ptAt (show 1 < ps.length by omega)]
    simp [upP, downV_one, valV, thrA, thrB, thrD]
    grind
  · obtain ⟨t1, t2, t3⟩ := trips_mem (best_mem e)
    rw [up_ptAt (show (bestTri ps).1 < ps.length by omega), up_ptAt (show (bestTri ps).2.1 < ps.length by omega), up_ptAt (show (bestTri ps).2.2 < ps.length by omega)]
    simp only [if_neg (show ¬ ps.length = 1 by omega), if_neg (show ¬ ps.length = 2 by omega)]
    unfold notA
    rw [bul_up]
    generalize bul _ _ _ = u
    simp only [upP, downV_one, valV, notB, notD]
    grind
theorem dvd_gcd3 {k a b d : Int} (h1 : k ∣ a) (h2 : k ∣ b) (h3 : k ∣ d) : k ∣ (gcd3 a b d : Int) := Int.dvd_coe_gcd (Int.dvd_coe_gcd h1 h2) h3
theorem gcd3_up (A B D a b : Int) : gcd3 (A + a * D) (B + b * D) D = gcd3 A B D := by
  obtain ⟨d1, d2, d3⟩ := gcd3_dvd A B D
  obtain ⟨e1, e2, e3⟩ := gcd3_dvd (A + a * D) (B + b * D) D
  apply Nat.dvd_antisymm
  · apply Int.natCast_dvd_natCast.1
    refine dvd_gcd3 ?_ ?_ e3
    · have := Int.dvd_sub e1 (Int.dvd_mul_of_dvd_right (a := _) e3 : _ ∣ a * D)
      rwa [Int.add_sub_cancel] at this
    · have := Int.dvd_sub e2 (Int.dvd_mul_of_dvd_right (a := _) e3 : _ ∣ b * D)
      rwa [Int.add_sub_cancel] at this
  · apply Int.natCast_dvd_natCast.1
    exact dvd_gcd3 (Int.dvd_add d1 (Int.dvd_mul_of_dvd_right d3)) (Int.dvd_add d2 (Int.dvd_mul_of_dvd_right d3)) d3
theorem mk_up {A B D a b : Int} (h : InBd A B D) (h' : InBd (A + a * D) (B + b * D) D) :
    mkA (A + a * D) (B + b * D) D = mkA A B D + a * mkD A B D ∧ mkB (A + a * D) (B + b * D) D = mkB A B D + b * mkD A B D ∧ mkD (A + a * D) (B + b * D) D = mkD A B D := by
  have f := mk_facts h
  have f' := mk_facts h'
  have ea := f'.ea
  have eb := f'.eb
  have ed := f'.ed
  have fa := f.ea
  have fb := f.eb
  have fd := f.ed
  have fp := f.pos
  rw [gcd3_up] at ea eb ed
  generalize (gcd3 A B D : Int) = g at *
  generalize mkA (A + a * D) (B + b * D) D = X at *
  generalize mkB (A + a * D) (B + b * D) D = Y at *
  generalize mkD (A + a * D) (B + b * D) D = Z at *
  generalize mkA A B D = U at *
  generalize mkB A B D = V at *
  generalize mkD A B D = T at *
  have hg : g ≠ 0 := by omega
  clear f f' h h'
  subst fa fb fd
  refine ⟨Int.eq_of_mul_eq_mul_left hg ?_, Int.eq_of_mul_eq_mul_left hg ?_, Int.eq_of_mul_eq_mul_left hg ed⟩
  · rw [ea]; grind
  · rw [eb]; grind
theorem ne_up {a b : Int} {ps : List (Int × Int)} (hG : GoodPts ps) (hQ : GoodPts (upL a b 1 ps)) (h : 2 ≤ ps.length ∨ b = 0) :
    neA (upL a b 1 ps) = neA ps + a * neD ps ∧ neB (upL a b 1 ps) = neB ps + b * neD ps ∧ neD (upL a b 1 ps) = neD ps := by
  have e := ne_mk hG
  have e' := ne_mk hQ
  have i' := nl_in hQ
  obtain ⟨u1, u2, u3⟩ := nl_up (a := a) hG.1 h
  rw [u1, u2, u3] at e' i'
  rw [e'.1, e'.2.1, e'.2.2.1, e.1, e.2.1, e.2.2.1]
  exact mk_up (nl_in hG) i'
theorem far_up (A B D a b : Int) (p : Int × Int) : farV (A + a * D, B + b * D, D) (upP a b 1 p) = farV (A, B, D) p := by
  have e : offV (A + a * D) (B + b * D) D p.1 (p.2 + (a + b * p.1)) = offV A B D p.1 p.2 := by
    unfold offV valV
    grind
  simp only [farV, upP, downV_one, valV]
  rw [e]
theorem woF_up {a b : Int} {ps : List (Int × Int)} (hG : GoodPts ps) (hQ : GoodPts (upL a b 1 ps)) (h : 2 ≤ ps.length ∨ b = 0) : woF (neL (upL a b 1 ps)) (upL a b 1 ps) = woF (neL ps) ps := by
  obtain ⟨u1, u2, u3⟩ := ne_up hG hQ h
  unfold neL
  rw [u1, u2, u3]
  have e : worI (neA ps + a * neD ps, neB ps + b * neD ps, neD ps) (upL a b 1 ps) = worI (neA ps, neB ps, neD ps) ps := by
    unfold worI
    rw [upL_len]
    refine bestTo_congr _ fun i j hi hj => ?_
    unfold farC
    rw [up_ptAt hi, up_ptAt hj, far_up, far_up]
  unfold woF
  rw [e, up_ptAt (worI_lt hG.1), far_up]
theorem woF_one {ps : List (Int × Int)} (hG : GoodPts ps) (h : ps.length = 1) : woF (neL ps) ps = 0 := by
  obtain ⟨e1, e2, e3⟩ := ne_single hG h
  have hi := worI_lt (x := neL ps) hG.1
  have e0 : worI (neL ps) ps = 0 := by omega
  unfold woF
  rw [e0]
  unfold neL
  rw [e1, e2, e3]
  simp [farV, offV, valV, ptAt]
theorem mk_self {a b d : Int} (h : GoodLine a b d) : mkA a b d = a ∧ mkB a b d = b ∧ mkD a b d = d ∧ mkE a b d = 0 := by
  have f := mk_facts h.1
  have fa := f.ea
  have fb := f.eb
  have fd := f.ed
  rw [h.2] at fa fb fd
  refine ⟨by omega, by omega, by omega, f.err⟩
theorem neD_le {ps : List (Int × Int)} (hG : GoodPts ps) : neD ps ≤ 400000 := by
  obtain ⟨g, hg, _, _, e, _⟩ := neL_nl hG
  have hp := neL_D hG
  have h1 : 1 * neD ps ≤ g * neD ps := Int.mul_le_mul_of_nonneg_right hg (by omega)
  have hA : ∀ i, i < ps.length → InPt (ptAt ps i).1 (ptAt ps i).2 := fun i hi => goodPts_at hG i hi
  have hl := hG.1
  have h2 : nlD ps ≤ 400000 := by
    rcases (show ps.length = 1 ∨ ps.length = 2 ∨ 3 ≤ ps.length by omega) with h | h | h
    · unfold nlD; rw [if_pos h]; omega
    · rw [(nl_two h).2.2]
      have a0 := hA 0 (by omega)
      have a1 := hA 1 (by omega)
      unfold InPt at a0 a1
      unfold thrD
      omega
    · rw [(nl_three h).2.2]
      obtain ⟨t1, t2, t3⟩ := trips_mem (best_mem h)
      have a0 := hA (bestTri ps).1 (by omega)
      have a1 := hA (bestTri ps).2.2 (by omega)
      unfold InPt at a0 a1
      unfold bstR bstP
      omega
  omega

/-- What P1.4 says of a line of whole numbers. -/
structure Raise (a b : Int) (ps qs : List (Int × Int)) : Prop where
  bn : ratN (woF (neL qs) qs) (neL qs).2.2 = ratN (woF (neL ps) ps) (neL ps).2.2
  bd : ratD (woF (neL qs) qs) (neL qs).2.2 = ratD (woF (neL ps) ps) (neL ps).2.2
  le : neD ps ≤ 400000
  one : ps.length = 1 → neB qs = 0
  made : 2 ≤ ps.length ∨ b = 0 → mkA (neA ps + a * neD ps) (neB ps + b * neD ps) (neD ps) = neA qs ∧ mkB (neA ps + a * neD ps) (neB ps + b * neD ps) (neD ps) = neB qs ∧ mkD (neA ps + a * neD ps) (neB ps + b * neD ps) (neD ps) = neD qs ∧ mkE (neA ps + a * neD ps) (neB ps + b * neD ps) (neD ps) = 0
theorem raise_main {a b : Int} {ps : List (Int × Int)} (hG : GoodPts ps) (hQ : GoodPts (upL a b 1 ps)) : Raise a b ps (upL a b 1 ps) := by
  have hw : woF (neL (upL a b 1 ps)) (upL a b 1 ps) = woF (neL ps) ps ∧ neD (upL a b 1 ps) = neD ps := by
    by_cases h : 2 ≤ ps.length ∨ b = 0
    · exact ⟨woF_up hG hQ h, (ne_up hG hQ h).2.2⟩
    · have h1 : ps.length = 1 := by have := hG.1; omega
      have h1' : (upL a b 1 ps).length = 1 := by rw [upL_len]; exact h1
      rw [woF_one hG h1, woF_one hQ h1', (ne_single hG h1).2.2, (ne_single hQ h1').2.2]
      exact ⟨rfl, rfl⟩
  have hd : (neL (upL a b 1 ps)).2.2 = (neL ps).2.2 := hw.2
  refine ⟨by rw [hw.1, hd], by rw [hw.1, hd], neD_le hG, fun h1 => (ne_single hQ (by rw [upL_len]; exact h1)).2.1, fun h => ?_⟩
  obtain ⟨u1, u2, u3⟩ := ne_up hG hQ h
  have hL := neL_good hQ
  unfold neL at hL
  dsimp only at hL
  have m := mk_self hL
  rw [u1, u2, u3] at m ⊢
  exact m
end Go.Proofs.Ytdhobjflfhijjaa
