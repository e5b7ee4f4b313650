/- Plain mathematics of fractions in lowest terms, of rounding up and of what tackles lift. -/
namespace Go.Proofs.YtccjfmhbmieigaaDoor.Ro
open Go.Proofs.YtccjfmhbmieigaaDoor

def ratN (n d : Int) : Int := n.tdiv (Int.gcd n d)
def ratD (n d : Int) : Int := d.tdiv (Int.gcd n d)
theorem tdiv_mul_of_dvd {a g : Int} (h : g ∣ a) : g * a.tdiv g = a := Int.mul_tdiv_cancel' h
theorem rat_facts {n d : Int} (hd : 1 ≤ d) : (Int.gcd n d : Int) * ratN n d = n ∧ (Int.gcd n d : Int) * ratD n d = d ∧ 1 ≤ (Int.gcd n d : Int) ∧ 1 ≤ ratD n d ∧ Int.gcd (ratN n d) (ratD n d) = 1 := by
  have hg : 0 < Int.gcd n d := Int.gcd_pos_of_ne_zero_right _ (by omega)
  have e1 : (Int.gcd n d : Int) * ratN n d = n := tdiv_mul_of_dvd (Int.gcd_dvd_left ..)
  have e2 : (Int.gcd n d : Int) * ratD n d = d := tdiv_mul_of_dvd (Int.gcd_dvd_right ..)
  have hp : 1 ≤ ratD n d := by
    rcases Int.lt_or_le (ratD n d) 1 with h | h
    · have : (Int.gcd n d : Int) * ratD n d ≤ 0 := Int.mul_nonpos_of_nonneg_of_nonpos (by omega) (by omega)
      omega
    · exact h
  refine ⟨e1, e2, by omega, hp, ?_⟩
  have e3 : Int.gcd ((Int.gcd n d : Int) * ratN n d) ((Int.gcd n d : Int) * ratD n d) = Int.gcd n d * Int.gcd (ratN n d) (ratD n d) := by
    rw [Int.gcd_mul_left, Int.natAbs_natCast]
  rw [e1, e2] at e3
  have : Int.gcd n d * 1 = Int.gcd n d * Int.gcd (ratN n d) (ratD n d) := by rw [Nat.mul_one]; exact e3
  exact (Nat.eq_of_mul_eq_mul_left hg this).symm

/-- Equal ratios have one lowest form. -/
theorem rat_one {n d n' d' : Int} (hd : 1 ≤ d) (hd' : 1 ≤ d') (e : n * d' = n' * d) : ratN n d = ratN n' d' ∧ ratD n d = ratD n' d' := by
  obtain ⟨xn, xd, hg, hD, o⟩ := rat_facts (n := n) hd
  obtain ⟨xn', xd', hg', hD', o'⟩ := rat_facts (n := n') hd'
  revert xn xd xn' xd' hg hg' hD hD' o o'
  generalize (Int.gcd n d : Int) = g
  generalize (Int.gcd n' d' : Int) = g'
  generalize ratN n d = N
  generalize ratD n d = D
  generalize ratN n' d' = N'
  generalize ratD n' d' = D'
  intro xn xd hg hD o xn' xd' hg' hD' o'
  subst xn xd xn' xd'
  have hp : g * g' ≠ 0 := by
    have : 0 < g * g' := Int.mul_pos (by omega) (by omega)
    omega
  have ec : N * D' = N' * D := Int.eq_of_mul_eq_mul_left hp (by grind)
  have h1 : ((D.toNat : Nat) : Int) = D := Int.toNat_of_nonneg (by omega)
  have h1' : ((D'.toNat : Nat) : Int) = D' := Int.toNat_of_nonneg (by omega)
  have e1 : Int.gcd (D' * N) (D' * D) = D'.toNat := by rw [Int.gcd_mul_left, o, Nat.mul_one]; omega
  have e2 : Int.gcd (D * N') (D * D') = D.toNat := by rw [Int.gcd_mul_left, o', Nat.mul_one]; omega
  have a1 : D' * N = D * N' := by grind
  have a2 : D' * D = D * D' := by grind
  rw [a1, a2, e2] at e1
  have e4 : D = D' := by omega
  subst e4
  exact ⟨Int.eq_of_mul_eq_mul_right (by omega) ec, rfl⟩
theorem rat_scale {n d c : Int} (hd : 1 ≤ d) (hc : 1 ≤ c) : ratN (n * c) (d * c) = ratN n d ∧ ratD (n * c) (d * c) = ratD n d := by
  have h : 0 < d * c := Int.mul_pos (by omega) (by omega)
  exact rat_one (by omega) hd (by grind)

/-- n / d rounded up. -/
def ceilD (n d : Int) : Int := -((-n) / d)
theorem ceil_up {n d : Int} (hd : 1 ≤ d) : (n + d - 1) / d = ceilD n d := by
  unfold ceilD
  have h1 := Int.mul_ediv_add_emod (-n) d
  have h2 := Int.emod_nonneg (-n) (show d ≠ 0 by omega)
  have h3 := Int.emod_lt_of_pos (-n) (show 0 < d by omega)
  generalize (-n) / d = q at *
  generalize (-n) % d = r at *
  have e3 : n + d - 1 = (-r + d - 1) + d * (-q) := by grind
  rw [e3, Int.add_mul_ediv_left _ _ (by omega), Int.ediv_eq_zero_of_lt (by omega) (by omega)]
  omega
theorem ceil_le {n d m : Int} (hd : 1 ≤ d) : ceilD n d ≤ m ↔ n ≤ m * d := by
  unfold ceilD
  constructor
  · intro h
    have : -m ≤ (-n) / d := by omega
    have := (Int.le_ediv_iff_mul_le (by omega)).1 this
    rw [Int.neg_mul] at this
    omega
  · intro h
    have : -m ≤ (-n) / d := (Int.le_ediv_iff_mul_le (by omega)).2 (by rw [Int.neg_mul]; omega)
    omega
theorem ceil_scale {n d c : Int} (hc : 1 ≤ c) : ceilD (n * c) (d * c) = ceilD n d := by
  unfold ceilD
  rw [show -(n * c) = c * (-n) by grind, show d * c = c * d by grind, Int.mul_ediv_mul_of_pos _ _ (by omega)]
theorem ceil_nonneg {n d : Int} (hn : 0 ≤ n) (hd : 1 ≤ d) : 0 ≤ ceilD n d := by
  rcases Int.lt_or_le (ceilD n d) 0 with h | h
  · have := (ceil_le hd (n := n) (m := -1)).1 (by omega)
    omega
  · exact h

/-! ### What tackles lift -/
/-- What the part i bears, times 10^10, of a pull of one newton: the program's own reckoning. -/
def tns (k : Int) : Nat → Int
  | 0 => 10000000000
  | i + 1 => tns k i * k / 100
/-- What the first p parts bear together. -/
def gsum (k : Int) : Nat → Int
  | 0 => 0
  | p + 1 => gsum k p + tns k p
/-- The reference's numerator and denominator for i + 1 parts. -/
def rN (k : Int) : Nat → Int
  | 0 => 1
  | i + 1 => 100 * (100 ^ i) + k * rN k i
def rD (i : Nat) : Int := 100 ^ i
theorem mul_rng {k q a b : Int} (hk : 0 ≤ k) (hk' : k ≤ b) (hq : 0 ≤ q) (hq' : q ≤ a) : 0 ≤ q * k ∧ q * k ≤ a * b :=
  ⟨Int.mul_nonneg hq hk, Int.le_trans (Int.mul_le_mul_of_nonneg_right hq' hk) (Int.mul_le_mul_of_nonneg_left hk' (by omega))⟩
theorem tns_bd {k : Int} (hk : 1 ≤ k) (hk' : k ≤ 100) : ∀ i, 0 ≤ tns k i ∧ tns k i ≤ 10000000000
  | 0 => by unfold tns; omega
  | i + 1 => by
    obtain ⟨h1, h2⟩ := tns_bd hk hk' i
    obtain ⟨h3, h4⟩ := mul_rng (show 0 ≤ k by omega) hk' h1 h2
    unfold tns
    generalize tns k i * k = q at *
    omega
theorem tns_mul {k : Int} (hk : 1 ≤ k) (hk' : k ≤ 100) (i : Nat) : 0 ≤ tns k i * k ∧ tns k i * k ≤ 1000000000000 := by
  obtain ⟨h1, h2⟩ := tns_bd hk hk' i
  have := mul_rng (show 0 ≤ k by omega) hk' h1 h2
  omega
theorem tns_eq {k : Int} : tns k 0 = 10000000000 ∧ tns k 1 = 100000000 * k ∧ tns k 2 = 1000000 * (k * k) ∧ tns k 3 = 10000 * (k * k * k) ∧ tns k 4 = 100 * (k * k * k * k) ∧ tns k 5 = k * k * k * k * k := by
  have h1 : tns k 1 = 100000000 * k := by show 10000000000 * k / 100 = _; omega
  have h2 : tns k 2 = 1000000 * (k * k) := by
    show tns k 1 * k / 100 = _
    rw [h1, Int.mul_assoc]
    generalize k * k = q; omega
  have h3 : tns k 3 = 10000 * (k * k * k) := by
    show tns k 2 * k / 100 = _
    rw [h2, Int.mul_assoc]
    generalize k * k * k = q; omega
  have h4 : tns k 4 = 100 * (k * k * k * k) := by
    show tns k 3 * k / 100 = _
    rw [h3, Int.mul_assoc]
    generalize k * k * k * k = q; omega
  have h5 : tns k 5 = k * k * k * k * k := by
    show tns k 4 * k / 100 = _
    rw [h4, Int.mul_assoc]
    generalize k * k * k * k * k = q; omega
  exact ⟨rfl, h1, h2, h3, h4, h5⟩
/-- By what the reference's fraction is to be extended to the program's. -/
def ext (i : Nat) : Int := 100 ^ (5 - i)
theorem gsum_rN {k : Int} (i : Nat) (h : i ≤ 5) : gsum k (i + 1) = rN k i * ext i ∧ 10000000000 = rD i * ext i ∧ 1 ≤ ext i ∧ 1 ≤ rD i := by
  obtain ⟨h0, h1, h2, h3, h4, h5⟩ := tns_eq (k := k)
  rcases (show i = 0 ∨ i = 1 ∨ i = 2 ∨ i = 3 ∨ i = 4 ∨ i = 5 by omega) with rfl | rfl | rfl | rfl | rfl | rfl <;>
    (refine ⟨?_, by simp [rD, ext], by simp [ext], by simp [rD]⟩; simp only [gsum, rN, ext, h0, h1, h2, h3, h4, h5]; grind)
theorem gsum_bd {k : Int} (hk : 1 ≤ k) (hk' : k ≤ 100) : ∀ p : Nat, 0 ≤ gsum k p ∧ gsum k p ≤ p * 10000000000
  | 0 => by simp [gsum]
  | p + 1 => by
    obtain ⟨h1, h2⟩ := gsum_bd hk hk' p
    obtain ⟨h3, h4⟩ := tns_bd hk hk' p
    simp only [gsum]; omega
theorem gsum_ge {k : Int} (hk : 1 ≤ k) (hk' : k ≤ 100) : ∀ p : Nat, 10000000000 ≤ gsum k (p + 1)
  | 0 => by simp [gsum, tns]
  | p + 1 => by
    have h1 := gsum_ge hk hk' p
    obtain ⟨h3, h4⟩ := tns_bd hk hk' (p + 1)
    rw [show gsum k (p + 1 + 1) = gsum k (p + 1) + tns k (p + 1) from rfl]; omega
theorem rN_bd {k : Int} (hk : 1 ≤ k) (hk' : k ≤ 100) : ∀ i : Nat, 1 ≤ rN k i ∧ rN k i ≤ (i + 1) * rD i ∧ 1 ≤ rD i
  | 0 => by simp [rN, rD]
  | i + 1 => by
    obtain ⟨h1, h2, h3⟩ := rN_bd hk hk' i
    have h4 : rD (i + 1) = 100 * rD i := by unfold rD; rw [Int.pow_succ, Int.mul_comm]
    have h5 : rN k (i + 1) = 100 * rD i + k * rN k i := rfl
    have h6 : k * rN k i ≤ 100 * ((i + 1) * rD i) := Int.le_trans (Int.mul_le_mul_of_nonneg_right hk' (by omega)) (Int.mul_le_mul_of_nonneg_left h2 (by omega))
    have h7 : 1 ≤ k * rN k i := by have := Int.mul_pos (show 0 < k by omega) (show 0 < rN k i by omega); omega
    have h8 : ((i + 1 : Nat) + 1 : Int) * rD (i + 1) = 100 * ((i + 1) * rD i) + 100 * rD i := by rw [h4]; push_cast; grind
    refine ⟨by omega, by rw [h8]; omega, by omega⟩
theorem rD_le {i : Nat} (h : i ≤ 5) : rD i ≤ 10000000000 := by
  rcases (show i = 0 ∨ i = 1 ∨ i = 2 ∨ i = 3 ∨ i = 4 ∨ i = 5 by omega) with rfl | rfl | rfl | rfl | rfl | rfl <;> simp [rD]
theorem rN_le {k : Int} (hk : 1 ≤ k) (hk' : k ≤ 100) {i : Nat} (h : i ≤ 5) : rN k i ≤ 60000000000 := by
  obtain ⟨h1, h2, h3⟩ := rN_bd hk hk' i
  have h4 := rD_le h
  have h5 : ((i : Int) + 1) * rD i ≤ 6 * 10000000000 := Int.le_trans (Int.mul_le_mul_of_nonneg_right (show (i : Int) + 1 ≤ 6 by omega) (by omega)) (Int.mul_le_mul_of_nonneg_left h4 (by omega))
  omega
end Go.Proofs.YtccjfmhbmieigaaDoor.Ro
