/- Plain facts on strips: the triple that bends most holds every point between its line and its middle point, and no strip is narrower. -/
import Derived.Test.YtdhobjflfhijjaaLMath
namespace Go.Proofs.Ytdhobjflfhijjaa

theorem up_left {c b vs hp hq hs : Int} (hpq : hp < hq)
    (hM : -(b * (hq - hs)) ≤ (c - vs) * (hq - hs) - (c + b - vs) * (hp - hs)) : vs ≤ c + b := by
  rcases Int.lt_or_le (c + b) vs with h | h
  · exfalso
    have h1 : 0 < (vs - (c + b)) * (hq - hp) := Int.mul_pos (by omega) (by omega)
    grind
  · exact h

theorem up_mid {c b vs hp hr hs : Int} (hpr : hp < hr)
    (hM : (vs - c) * (hr - hp) - (c - c) * (hs - hp) ≤ b * (hr - hp)) : vs ≤ c + b := by
  rcases Int.lt_or_le (c + b) vs with h | h
  · exfalso
    have h1 : 0 < (vs - (c + b)) * (hr - hp) := Int.mul_pos (by omega) (by omega)
    grind
  · exact h

theorem up_right {c b vs hq hr hs : Int} (hqr : hq < hr)
    (hM : -(b * (hs - hq)) ≤ (c - (c + b)) * (hs - hq) - (vs - (c + b)) * (hr - hq)) : vs ≤ c + b := by
  rcases Int.lt_or_le (c + b) vs with h | h
  · exfalso
    have h1 : 0 < (vs - (c + b)) * (hr - hq) := Int.mul_pos (by omega) (by omega)
    grind
  · exact h

theorem low_left {c b vs hq hr hs : Int} (hqr : hq < hr)
    (hM : (c + b - vs) * (hr - hs) - (c - vs) * (hq - hs) ≤ b * (hr - hs)) : c ≤ vs := by
  rcases Int.lt_or_le vs c with h | h
  · exfalso
    have h1 : 0 < (c - vs) * (hr - hq) := Int.mul_pos (by omega) (by omega)
    grind
  · exact h

theorem low_right {c b vs hp hq hs : Int} (hpq : hp < hq)
    (hM : (c + b - c) * (hs - hp) - (vs - c) * (hq - hp) ≤ b * (hs - hp)) : c ≤ vs := by
  rcases Int.lt_or_le vs c with h | h
  · exfalso
    have h1 : 0 < (c - vs) * (hq - hp) := Int.mul_pos (by omega) (by omega)
    grind
  · exact h

/-- a strip along any direction is at least as wide as the bow, in the common measure -/
theorem wide {c b B D bb d xp xq xr hp hq hr lo hi : Int} (hpq : hp < hq) (hqr : hq < hr)
    (ep : xp * D - B * hp = c) (er : xr * D - B * hr = c) (eq : xq * D - B * hq = c + b) (hD : 0 < D)
    (lp : lo ≤ xp * d - bb * hp) (lr : lo ≤ xr * d - bb * hr) (uq : xq * d - bb * hq ≤ hi) :
    b * d ≤ (hi - lo) * D := by
  have e1 : (xq * d - bb * hq - (xp * d - bb * hp)) * D = b * d + (B * d - bb * D) * (hq - hp) := by grind
  have e2 : (xq * d - bb * hq - (xr * d - bb * hr)) * D = b * d - (B * d - bb * D) * (hr - hq) := by grind
  rcases Int.le_total 0 (B * d - bb * D) with hk | hk
  · have h1 : 0 ≤ (B * d - bb * D) * (hq - hp) := Int.mul_nonneg hk (by omega)
    have h2 : (xq * d - bb * hq - (xp * d - bb * hp)) * D ≤ (hi - lo) * D := Int.mul_le_mul_of_nonneg_right (by omega) (by omega)
    omega
  · have h1 : 0 ≤ (-(B * d - bb * D)) * (hr - hq) := Int.mul_nonneg (by omega) (by omega)
    have h2 : (xq * d - bb * hq - (xr * d - bb * hr)) * D ≤ (hi - lo) * D := Int.mul_le_mul_of_nonneg_right (by omega) (by omega)
    grind

/-- and exactly as wide only along the bow's own direction -/
theorem wide_eq {c b B D bb d xp xq xr hp hq hr lo hi : Int} (hpq : hp < hq) (hqr : hq < hr)
    (ep : xp * D - B * hp = c) (er : xr * D - B * hr = c) (eq : xq * D - B * hq = c + b) (hD : 0 < D)
    (lp : lo ≤ xp * d - bb * hp) (lr : lo ≤ xr * d - bb * hr) (uq : xq * d - bb * hq ≤ hi)
    (he : (hi - lo) * D ≤ b * d) : B * d = bb * D := by
  have e1 : (xq * d - bb * hq - (xp * d - bb * hp)) * D = b * d + (B * d - bb * D) * (hq - hp) := by grind
  have e2 : (xq * d - bb * hq - (xr * d - bb * hr)) * D = b * d - (B * d - bb * D) * (hr - hq) := by grind
  rcases Int.lt_trichotomy 0 (B * d - bb * D) with hk | hk | hk
  · have h1 : 0 < (B * d - bb * D) * (hq - hp) := Int.mul_pos hk (by omega)
    have h2 : (xq * d - bb * hq - (xp * d - bb * hp)) * D ≤ (hi - lo) * D := Int.mul_le_mul_of_nonneg_right (by omega) (by omega)
    omega
  · omega
  · have h1 : 0 < (-(B * d - bb * D)) * (hr - hq) := Int.mul_pos (by omega) (by omega)
    have h2 : (xq * d - bb * hq - (xr * d - bb * hr)) * D ≤ (hi - lo) * D := Int.mul_le_mul_of_nonneg_right (by omega) (by omega)
    grind

/-- The other way round: the bow lies below its line. -/
theorem wide_neg {c b B D bb d xp xq xr hp hq hr lo hi : Int} (hpq : hp < hq) (hqr : hq < hr)
    (ep : xp * D - B * hp = c) (er : xr * D - B * hr = c) (eq : xq * D - B * hq = c - b) (hD : 0 < D)
    (up : xp * d - bb * hp ≤ hi) (ur : xr * d - bb * hr ≤ hi) (lq : lo ≤ xq * d - bb * hq) :
    b * d ≤ (hi - lo) * D := by
  have := wide (c := -c) (b := b) (B := -B) (D := D) (bb := -bb) (d := d) (xp := -xp) (xq := -xq) (xr := -xr) (lo := -hi) (hi := -lo)
    hpq hqr (by grind) (by grind) (by grind) hD (by grind) (by grind) (by grind)
  grind

theorem wide_neg_eq {c b B D bb d xp xq xr hp hq hr lo hi : Int} (hpq : hp < hq) (hqr : hq < hr)
    (ep : xp * D - B * hp = c) (er : xr * D - B * hr = c) (eq : xq * D - B * hq = c - b) (hD : 0 < D)
    (up : xp * d - bb * hp ≤ hi) (ur : xr * d - bb * hr ≤ hi) (lq : lo ≤ xq * d - bb * hq)
    (he : (hi - lo) * D ≤ b * d) : B * d = bb * D := by
  have := wide_eq (c := -c) (b := b) (B := -B) (D := D) (bb := -bb) (d := d) (xp := -xp) (xq := -xq) (xr := -xr) (lo := -hi) (hi := -lo)
    hpq hqr (by grind) (by grind) (by grind) hD (by grind) (by grind) (by grind) (by grind)
  grind

theorem gcd3_mul (g : Nat) (a b d : Int) : gcd3 ((g : Int) * a) ((g : Int) * b) ((g : Int) * d) = g * gcd3 a b d := by
  unfold gcd3
  rw [Int.gcd_mul_left, Int.natCast_mul, Int.natAbs_natCast, Int.gcd_mul_left, Int.natAbs_natCast]

/-- Two reduced lines of one direction and one place are one line. -/
theorem red_one {A B D A' B' D' : Int} (hD : 1 ≤ D) (hD' : 1 ≤ D') (g : gcd3 A B D = 1) (g' : gcd3 A' B' D' = 1)
    (ea : A * D' = A' * D) (eb : B * D' = B' * D) : A = A' ∧ B = B' ∧ D = D' := by
  have hd : ((D.toNat : Nat) : Int) = D := Int.toNat_of_nonneg (by omega)
  have hd' : ((D'.toNat : Nat) : Int) = D' := Int.toNat_of_nonneg (by omega)
  have e1 := gcd3_mul D'.toNat A B D
  have e2 := gcd3_mul D.toNat A' B' D'
  rw [g, Nat.mul_one, hd'] at e1
  rw [g', Nat.mul_one, hd] at e2
  have e3 : gcd3 (D' * A) (D' * B) (D' * D) = gcd3 (D * A') (D * B') (D * D') := by
    have a1 : D' * A = D * A' := by grind
    have a2 : D' * B = D * B' := by grind
    have a3 : D' * D = D * D' := by grind
    rw [a1, a2, a3]
  have e4 : D = D' := by omega
  subst e4
  exact ⟨Int.eq_of_mul_eq_mul_right (by omega) ea, Int.eq_of_mul_eq_mul_right (by omega) eb, rfl⟩

/-- Lines given in two measures are reduced to one. -/
theorem mk_one {a b d a' b' d' : Int} (h : InBd a b d) (h' : InBd a' b' d') (ea : a * d' = a' * d) (eb : b * d' = b' * d) :
    mkA a b d = mkA a' b' d' ∧ mkB a b d = mkB a' b' d' ∧ mkD a b d = mkD a' b' d' := by
  have f := mk_facts h
  have f' := mk_facts h'
  have hd : 1 ≤ mkD a b d := by have h0 := f.good.1; unfold InBd at h0; omega
  have hd' : 1 ≤ mkD a' b' d' := by have h0 := f'.good.1; unfold InBd at h0; omega
  have hg := f.pos
  have hg' := f'.pos
  have xa := f.ea
  have xb := f.eb
  have xd := f.ed
  have xa' := f'.ea
  have xb' := f'.eb
  have xd' := f'.ed
  have o := f.one
  have o' := f'.one
  revert xa xb xd xa' xb' xd' o o' hd hd' hg hg'
  generalize (gcd3 a b d : Int) = g
  generalize (gcd3 a' b' d' : Int) = g'
  generalize mkA a b d = A
  generalize mkB a b d = B
  generalize mkD a b d = D
  generalize mkA a' b' d' = A'
  generalize mkB a' b' d' = B'
  generalize mkD a' b' d' = D'
  intro hd hd' hg hg' xa xb xd xa' xb' xd' o o'
  subst xa xb xd xa' xb' xd'
  have hp : g * g' ≠ 0 := by
    have : 0 < g * g' := Int.mul_pos (by omega) (by omega)
    omega
  refine red_one hd hd' o o' (Int.eq_of_mul_eq_mul_left hp ?_) (Int.eq_of_mul_eq_mul_left hp ?_) <;> grind

theorem rat_facts {n d : Int} (hd : 1 ≤ d) : (Int.gcd n d : Int) * ratN n d = n ∧ (Int.gcd n d : Int) * ratD n d = d ∧ 1 ≤ (Int.gcd n d : Int) ∧ 1 ≤ ratD n d ∧ Int.gcd (ratN n d) (ratD n d) = 1 := by
  have hg : 0 < Int.gcd n d := Int.gcd_pos_of_ne_zero_right _ (by omega)
  have e1 : (Int.gcd n d : Int) * ratN n d = n := tdiv_mul_of_dvd (Int.gcd_dvd_left ..)
  have e2 : (Int.gcd n d : Int) * ratD n d = d := tdiv_mul_of_dvd (Int.gcd_dvd_right ..)
  have hp : 1 ≤ ratD n d := by
    rcases Int.lt_or_le (ratD n d) 1 with h | h
    · have : (Int.gcd n d : Int) * ratD n d ≤ 0 := Int.mul_nonpos_of_nonneg_of_nonpos (by omega) (by omega)
      omega
    · exact h
  refine ⟨e1, e2, by omega, hp, ?_⟩
  have e3 : Int.gcd ((Int.gcd n d : Int) * ratN n d) ((Int.gcd n d : Int) * ratD n d) = Int.gcd n d * Int.gcd (ratN n d) (ratD n d) := by
    rw [Int.gcd_mul_left, Int.natAbs_natCast]
  rw [e1, e2] at e3
  have : Int.gcd n d * 1 = Int.gcd n d * Int.gcd (ratN n d) (ratD n d) := by rw [Nat.mul_one]; exact e3
  exact (Nat.eq_of_mul_eq_mul_left hg this).symm

/-- Equal ratios have one lowest form. -/
theorem rat_one {n d n' d' : Int} (hd : 1 ≤ d) (hd' : 1 ≤ d') (e : n * d' = n' * d) : ratN n d = ratN n' d' ∧ ratD n d = ratD n' d' := by
  obtain ⟨xn, xd, hg, hD, o⟩ := rat_facts (n := n) hd
  obtain ⟨xn', xd', hg', hD', o'⟩ := rat_facts (n := n') hd'
  revert xn xd xn' xd' hg hg' hD hD' o o'
  generalize (Int.gcd n d : Int) = g
  generalize (Int.gcd n' d' : Int) = g'
  generalize ratN n d = N
  generalize ratD n d = D
  generalize ratN n' d' = N'
  generalize ratD n' d' = D'
  intro xn xd hg hD o xn' xd' hg' hD' o'
  subst xn xd xn' xd'
  have hp : g * g' ≠ 0 := by
    have : 0 < g * g' := Int.mul_pos (by omega) (by omega)
    omega
  have ec : N * D' = N' * D := Int.eq_of_mul_eq_mul_left hp (by grind)
  have h1 : ((D.toNat : Nat) : Int) = D := Int.toNat_of_nonneg (by omega)
  have h1' : ((D'.toNat : Nat) : Int) = D' := Int.toNat_of_nonneg (by omega)
  have e1 : Int.gcd (D' * N) (D' * D) = D'.toNat := by rw [Int.gcd_mul_left, o, Nat.mul_one]; omega
  have e2 : Int.gcd (D * N') (D * D') = D.toNat := by rw [Int.gcd_mul_left, o', Nat.mul_one]; omega
  have a1 : D' * N = D * N' := by grind
  have a2 : D' * D = D * D' := by grind
  rw [a1, a2, e2] at e1
  have e4 : D = D' := by omega
  subst e4
  exact ⟨Int.eq_of_mul_eq_mul_right (by omega) ec, rfl⟩

end Go.Proofs.Ytdhobjflfhijjaa
