/- The plain mathematics of P4.2. -/
import Derived.Test.YtnhkkboddoiinaaPartsx
import Derived.Test.YtnhkkboddoiinaaRcm
namespace Go.Proofs.Ytnhkkboddoiinaa

theorem mul_bd {g x A : Int} (hg : 1 ≤ g) (h1 : -A ≤ g * x) (h2 : g * x ≤ A) : -A ≤ x ∧ x ≤ A := by
  rcases Int.lt_or_le x 0 with h | h
  · have : g * x ≤ 1 * x := Int.mul_le_mul_of_nonpos_right hg (by omega)
    omega
  · have : 1 * x ≤ g * x := Int.mul_le_mul_of_nonneg_right hg h
    omega
theorem rat_64 {n d : Int} (hd : 1 ≤ d) (hn : In64 n) (hd' : In64 d) : In64 (ratN n d) ∧ In64 (ratD n d) := by
  obtain ⟨e1, e2, e3, e4, _⟩ := rat_facts (n := n) hd
  unfold In64 at *
  have a := mul_bd (A := 9223372036854775807) (x := ratD n d) e3 (by omega) (by omega)
  have b := mul_bd (A := 9223372036854775808) (x := ratN n d) e3 (by omega) (by omega)
  refine ⟨⟨by omega, ?_⟩, by omega⟩
  rcases Int.lt_or_le (ratN n d) 0 with h | h
  · omega
  · have : 1 * ratN n d ≤ (Int.gcd n d : Int) * ratN n d := Int.mul_le_mul_of_nonneg_right e3 h
    omega
theorem cmp3_mul {a b k : Int} (hk : 1 ≤ k) : cmp3 (k * a) (k * b) = cmp3 a b := by
  have h1 : k * a < k * b ↔ a < b := by
    constructor
    · intro h; exact Int.lt_of_mul_lt_mul_left h (by omega)
    · intro h; exact Int.mul_lt_mul_of_pos_left h (by omega)
  have h2 : k * b < k * a ↔ b < a := by
    constructor
    · intro h; exact Int.lt_of_mul_lt_mul_left h (by omega)
    · intro h; exact Int.mul_lt_mul_of_pos_left h (by omega)
  unfold cmp3
  simp only [h1, h2]
theorem cmp_rat {F d M D : Int} (hd : 1 ≤ d) (hD : 1 ≤ D) : cmpR (ratN F d) (ratD F d) (ratN M D) (ratD M D) = cmp3 (F * D) (M * d) := by
  obtain ⟨e1, e2, e3, e4, _⟩ := rat_facts (n := F) hd
  obtain ⟨f1, f2, f3, f4, _⟩ := rat_facts (n := M) hD
  unfold cmpR
  rw [show max (ratD M D) 1 = ratD M D by omega, show max (ratD F d) 1 = ratD F d by omega]
  have hk : (1 : Int) ≤ (Int.gcd F d : Int) * (Int.gcd M D : Int) := by
    have := Int.mul_pos (show (0 : Int) < Int.gcd F d by omega) (show (0 : Int) < Int.gcd M D by omega)
    omega
  rw [← cmp3_mul hk]
  congr 1
  · generalize (Int.gcd F d : Int) = g at *
    generalize (Int.gcd M D : Int) = k at *
    rw [← f2, ← e1]
    grind
  · generalize (Int.gcd F d : Int) = g at *
    generalize (Int.gcd M D : Int) = k at *
    rw [← f1, ← e2]
    grind
theorem rat_int (n : Int) : ratN n 1 = n ∧ ratD n 1 = 1 := by unfold ratN ratD; simp
/-- A fraction against a whole number. -/
theorem cmp_int {F d n : Int} (hd : 1 ≤ d) : cmpR (ratN F d) (ratD F d) n 1 = cmp3 F (n * d) := by
  have := cmp_rat (F := F) (d := d) (M := n) (D := 1) hd (by omega)
  rw [(rat_int n).1, (rat_int n).2, Int.mul_one] at this
  exact this

theorem tns_mono {k l : Int} (hk : 1 ≤ k) (hkl : k ≤ l) (hl : l ≤ 100) : ∀ i, tns k i ≤ tns l i
  | 0 => by simp [tns]
  | i + 1 => by
    have h1 := tns_mono hk hkl hl i
    have h2 := (tns_bd hk (by omega) i).1
    have h3 : tns k i * k ≤ tns l i * l := Int.le_trans (Int.mul_le_mul_of_nonneg_right h1 (by omega)) (Int.mul_le_mul_of_nonneg_left hkl (by omega))
    simp only [tns]
    exact Int.ediv_le_ediv (by omega) h3
theorem gsum_mono {k l : Int} (hk : 1 ≤ k) (hkl : k ≤ l) (hl : l ≤ 100) : ∀ p, gsum k p ≤ gsum l p
  | 0 => by simp [gsum]
  | p + 1 => by
    have h1 := gsum_mono hk hkl hl p
    have h2 := tns_mono hk hkl hl p
    simp only [gsum]; omega
theorem gsum_more {k : Int} (hk : 1 ≤ k) (hk' : k ≤ 100) {p : Nat} : ∀ {q : Nat}, p ≤ q → gsum k p ≤ gsum k q
  | 0, h => by obtain rfl : p = 0 := by omega
               exact Int.le_refl _
  | q + 1, h => by
    rcases Nat.lt_or_ge q p with h1 | h1
    · obtain rfl : p = q + 1 := by omega
      exact Int.le_refl _
    · have h2 := gsum_more hk hk' (q := q) h1
      have h3 := (tns_bd hk hk' q).1
      simp only [gsum]; omega
theorem gT_mono {p k q l : Int} (h : GoodT p k) (h' : GoodT q l) (hp : p ≤ q) (hk : k ≤ l) : gT p k ≤ gT q l := by
  obtain ⟨⟨a1, a2⟩, a3, a4⟩ := h
  obtain ⟨⟨b1, b2⟩, b3, b4⟩ := h'
  exact Int.le_trans (gsum_mono a3 hk b4 _) (gsum_more b3 b4 (by omega))
theorem tns_100 : ∀ i, tns 100 i = 10000000000
  | 0 => rfl
  | i + 1 => by simp only [tns, tns_100 i]; omega
theorem gsum_100 : ∀ p : Nat, gsum 100 p = p * 10000000000
  | 0 => by simp [gsum]
  | p + 1 => by simp only [gsum, gsum_100 p, tns_100]; omega

theorem ld_1 : Ld 1 := by show _ ∧ _; omega
theorem lf_good {p k n : Int} (h : GoodT p k) (hn : Ld n) : lfN p k n = ratN (n * gT p k) 10000000000 ∧ lfD p k n = ratD (n * gT p k) 10000000000 ∧ lfE p k n = 0 := by simp [lfN, lfD, lfE, h, hn]
theorem lf_64 (p k n : Int) : In64 (lfN p k n) ∧ In64 (lfD p k n) := by
  by_cases h : GoodT p k ∧ Ld n
  · obtain ⟨e1, e2, _⟩ := lf_good h.1 h.2
    have b := lift_bd h.1 h.2
    rw [e1, e2]
    exact rat_64 (by omega) (by unfold In64; omega) (by unfold In64; omega)
  · unfold lfN lfD; rw [if_neg h, if_neg h]; unfold In64; omega
/-- More parts and a greater Keep lift no less. -/
theorem gains_more {p k q l : Int} (h : GoodT p k) (h' : GoodT q l) (hp : p ≤ q) (hk : k ≤ l) : cmpR (lfN p k 1) (lfD p k 1) (lfN q l 1) (lfD q l 1) ≤ 0 := by
  obtain ⟨e1, e2, _⟩ := lf_good h ld_1
  obtain ⟨f1, f2, _⟩ := lf_good h' ld_1
  rw [e1, e2, f1, f2, cmp_rat (by omega) (by omega)]
  have := gT_mono h h' hp hk
  unfold cmp3
  split
  · omega
  · rw [if_neg (by omega)]; omega
theorem gains_100 {p : Int} (h : GoodT p 100) : lfN p 100 1 = p ∧ lfD p 100 1 = 1 := by
  obtain ⟨e1, e2, _⟩ := lf_good h ld_1
  have e : gT p 100 = p * 10000000000 := by
    obtain ⟨⟨a1, a2⟩, _⟩ := h
    unfold gT; rw [gsum_100, Int.toNat_of_nonneg (by omega)]
  have := rat_scale (n := p) (d := 1) (c := 10000000000) (by omega) (by omega)
  rw [Int.one_mul] at this
  rw [e1, e2, e, Int.one_mul, this.1, this.2]
  exact rat_int p
/-- A pull lifts its load, and one newton less does not. -/
theorem pull_lifts {p k n : Int} (h : GoodT p k) (hn : Ld n) : Ld (plN p k n) ∧ 0 ≤ cmpR (lfN p k (plN p k n)) (lfD p k (plN p k n)) n 1 ∧
    (plN p k n ≤ 0 → plN p k n = 0 ∧ n = 0) ∧ (1 ≤ plN p k n → Ld (plN p k n - 1) ∧ cmpR (lfN p k (plN p k n - 1)) (lfD p k (plN p k n - 1)) n 1 < 0) := by
  obtain ⟨n1, n2⟩ := hn
  have hb := plN_bd h n1
  have hl := (plN_le (n := n) (m := plN p k n) h).1 (Int.le_refl _)
  have hL : Ld (plN p k n) := ⟨hb.1, by omega⟩
  refine ⟨hL, ?_, fun h0 => ?_, fun h0 => ?_⟩
  · obtain ⟨e1, e2, _⟩ := lf_good h hL
    rw [e1, e2, cmp_int (by omega)]
    unfold cmp3
    rw [if_neg (by omega)]
    split <;> omega
  · have := gT_bd h
    have e : plN p k n = 0 := by omega
    rw [e] at hl
    refine ⟨e, by omega⟩
  · have hL' : Ld (plN p k n - 1) := ⟨by omega, by omega⟩
    obtain ⟨e1, e2, _⟩ := lf_good h hL'
    refine ⟨hL', ?_⟩
    rw [e1, e2, cmp_int (by omega)]
    have := mt (plN_le (n := n) (m := plN p k n - 1) h).2 (by omega)
    unfold cmp3
    rw [if_pos (by omega)]
    omega
end Go.Proofs.Ytnhkkboddoiinaa
