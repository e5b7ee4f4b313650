/- Plain facts on lines in lowest terms. -/
import Derived.Test.YtdhobjflfhijjaaDist
import Derived.Test.YtdhobjflfhijjaaThr
namespace Go.Proofs.Ytdhobjflfhijjaa

theorem gcd3_dvd (a b d : Int) : ((gcd3 a b d : Nat) : Int) ∣ a ∧ ((gcd3 a b d : Nat) : Int) ∣ b ∧ ((gcd3 a b d : Nat) : Int) ∣ d := by
  unfold gcd3
  have h1 : ((Int.gcd (Int.gcd a b) d : Nat) : Int) ∣ (Int.gcd a b : Nat) := Int.gcd_dvd_left ..
  exact ⟨Int.dvd_trans h1 (Int.gcd_dvd_left ..), Int.dvd_trans h1 (Int.gcd_dvd_right ..), Int.gcd_dvd_right ..⟩
theorem tdiv_mul_of_dvd {a g : Int} (h : g ∣ a) : g * a.tdiv g = a := Int.mul_tdiv_cancel' h

/-- The three numbers, divided by what they have in common. -/
structure MkFacts (a b d : Int) : Prop where
  ea : (gcd3 a b d : Int) * mkA a b d = a
  eb : (gcd3 a b d : Int) * mkB a b d = b
  ed : (gcd3 a b d : Int) * mkD a b d = d
  one : gcd3 (mkA a b d) (mkB a b d) (mkD a b d) = 1
  good : GoodLine (mkA a b d) (mkB a b d) (mkD a b d)
  err : mkE a b d = 0
  pos : 1 ≤ (gcd3 a b d : Int)

theorem mul_bd {g x A : Int} (hg : 1 ≤ g) (h1 : -A ≤ g * x) (h2 : g * x ≤ A) : -A ≤ x ∧ x ≤ A := by
  rcases Int.lt_or_le x 0 with h | h
  · have : g * x ≤ 1 * x := Int.mul_le_mul_of_nonpos_right hg (by omega)
    omega
  · have : 1 * x ≤ g * x := Int.mul_le_mul_of_nonneg_right hg h
    omega

theorem mk_facts {a b d : Int} (h : InBd a b d) : MkFacts a b d := by
  have hd : 1 ≤ d := by unfold InBd at h; omega
  have hg := gcd3_pos (a := a) (b := b) hd
  obtain ⟨d1, d2, d3⟩ := gcd3_dvd a b d
  have ea : (gcd3 a b d : Int) * mkA a b d = a := by unfold mkA; rw [if_pos h]; exact tdiv_mul_of_dvd d1
  have eb : (gcd3 a b d : Int) * mkB a b d = b := by unfold mkB; rw [if_pos h]; exact tdiv_mul_of_dvd d2
  have ed : (gcd3 a b d : Int) * mkD a b d = d := by unfold mkD; rw [if_pos h]; exact tdiv_mul_of_dvd d3
  have ee : mkE a b d = 0 := by unfold mkE; rw [if_pos h]
  have hg' : 1 ≤ (gcd3 a b d : Int) := by omega
  have one : gcd3 (mkA a b d) (mkB a b d) (mkD a b d) = 1 := by
    have e1 : gcd3 a b d = gcd3 a b d * gcd3 (mkA a b d) (mkB a b d) (mkD a b d) := by
      have e2 : gcd3 ((gcd3 a b d : Int) * mkA a b d) ((gcd3 a b d : Int) * mkB a b d) ((gcd3 a b d : Int) * mkD a b d) = gcd3 a b d * gcd3 (mkA a b d) (mkB a b d) (mkD a b d) := by
        generalize gcd3 a b d = g
        unfold gcd3
        rw [Int.gcd_mul_left, Int.natCast_mul, Int.natAbs_natCast, Int.gcd_mul_left, Int.natAbs_natCast]
      rw [ea, eb, ed] at e2
      exact e2
    have : gcd3 a b d * 1 = gcd3 a b d * gcd3 (mkA a b d) (mkB a b d) (mkD a b d) := by rw [Nat.mul_one]; exact e1
    exact (Nat.eq_of_mul_eq_mul_left hg this).symm
  refine ⟨ea, eb, ed, one, ⟨?_, one⟩, ee, hg'⟩
  have hp : 1 ≤ mkD a b d := by
    rcases Int.lt_or_le (mkD a b d) 1 with h1 | h1
    · have : (gcd3 a b d : Int) * mkD a b d ≤ 0 := Int.mul_nonpos_of_nonneg_of_nonpos (by omega) (by omega)
      omega
    · exact h1
  unfold InBd at h ⊢
  have b1 := mul_bd (A := 100000000000000000) hg' (by omega) (by omega : (gcd3 a b d : Int) * mkA a b d ≤ 100000000000000000)
  have b2 := mul_bd (A := 1000000000000) hg' (by omega) (by omega : (gcd3 a b d : Int) * mkB a b d ≤ 1000000000000)
  have b3 := mul_bd (A := 1000000000000) hg' (by omega) (by omega : (gcd3 a b d : Int) * mkD a b d ≤ 1000000000000)
  omega

/-- What a point is off a line, before and behind the division. -/
theorem off_mk {a b d : Int} (h : InBd a b d) (p x : Int) : (gcd3 a b d : Int) * offV (mkA a b d) (mkB a b d) (mkD a b d) p x = offV a b d p x := by
  have f := mk_facts h
  have e : offV a b d p x = offV ((gcd3 a b d : Int) * mkA a b d) ((gcd3 a b d : Int) * mkB a b d) ((gcd3 a b d : Int) * mkD a b d) p x := by rw [f.ea, f.eb, f.ed]
  rw [e]
  unfold offV valV
  generalize (gcd3 a b d : Int) = g
  generalize mkA a b d = A
  generalize mkB a b d = B
  generalize mkD a b d = D
  rw [Int.mul_sub, Int.mul_add, Int.mul_left_comm, Int.mul_assoc]

theorem thr_in {p q : Int × Int} (hp : InPt p.1 p.2) (hq : InPt q.1 q.2) (h : p.1 < q.1) : InBd (thrA p q) (thrB p q) (thrD p q) := by
  unfold InPt at hp hq
  have m1 := prod_bd (a := p.2) (b := q.1 - p.1) (A := 10000) (B := 200000) (by omega) (by omega) (by omega) (by omega)
  have m2 := prod_bd (a := p.1) (b := q.2 - p.2) (A := 200000) (B := 20000) (by omega) (by omega) (by omega) (by omega)
  unfold InBd thrA thrB thrD
  omega
theorem thr_off_left (p q : Int × Int) : offV (thrA p q) (thrB p q) (thrD p q) p.1 p.2 = 0 := by
  unfold offV valV thrA thrB thrD
  rw [Int.mul_comm p.1 (q.2 - p.2)]
  omega
theorem thr_off_right (p q : Int × Int) : offV (thrA p q) (thrB p q) (thrD p q) q.1 q.2 = 0 := by
  unfold offV valV thrA thrB thrD
  obtain ⟨ph, px⟩ := p
  obtain ⟨qh, qx⟩ := q
  dsimp only
  simp only [Int.mul_sub, Int.mul_comm]
  omega
theorem ratN_zero (d : Int) : ratN 0 d = 0 := by unfold ratN; simp
end Go.Proofs.Ytdhobjflfhijjaa
