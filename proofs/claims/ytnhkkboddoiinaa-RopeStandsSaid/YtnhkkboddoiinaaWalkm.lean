/- Where a man may walk, and where he levels: plain mathematics. -/
import Derived.Test.YtnhkkboddoiinaaLoadm
import Derived.Test.YtnhkkboddoiinaaUsem
namespace Go.Proofs.Ytnhkkboddoiinaa

/-- The least place at which the first rope bears no more than L. -/
def wLo (a n L s : Int) : Int := if n = 0 then (if a ≤ L then 0 else s + 1) else max 0 (-((L - a) / n) + s)
/-- The greatest place at which the second rope bears no more than L. -/
def wHi (b n L s : Int) : Int := if n = 0 then (if b ≤ L then s else -1) else min s ((L - b) / n)
theorem wLo_iff {a n L s x : Int} (hn : 0 ≤ n) (h0 : 0 ≤ x) (hs : x ≤ s) : a + n * (s - x) ≤ L ↔ wLo a n L s ≤ x := by
  unfold wLo
  by_cases h : n = 0
  · subst h
    simp only [Int.zero_mul, Int.add_zero, if_true]
    split <;> omega
  · have := Int.le_ediv_iff_mul_le (a := s - x) (b := L - a) (c := n) (by omega)
    rw [if_neg h]
    rw [Int.mul_comm (s - x) n] at this
    omega
theorem wHi_iff {b n L s x : Int} (hn : 0 ≤ n) (h0 : 0 ≤ x) (hs : x ≤ s) : b + n * x ≤ L ↔ x ≤ wHi b n L s := by
  unfold wHi
  by_cases h : n = 0
  · subst h
    simp only [Int.zero_mul, Int.add_zero, if_true]
    split <;> omega
  · have := Int.le_ediv_iff_mul_le (a := x) (b := L - b) (c := n) (by omega)
    rw [if_neg h]
    rw [Int.mul_comm x n] at this
    omega
theorem wLo_nonneg {a n L s : Int} (hs : 0 ≤ s) : 0 ≤ wLo a n L s := by unfold wLo; split <;> (try split) <;> omega
theorem wHi_le {b n L s : Int} (hs : 0 ≤ s) : wHi b n L s ≤ s := by unfold wHi; split <;> (try split) <;> omega

/-- The first rope at a place, times the span; the second one. -/
def mF (s n : Int) (ps : List (Int × Int)) (x : Int) : Int := fS s ps + n * (s - x)
def mT (n : Int) (ps : List (Int × Int)) (x : Int) : Int := sS ps + n * x
theorem man_bd {s n x : Int} {ps : List (Int × Int)} (hG : GoodL s ps) (hn : Ld n) (h0 : 0 ≤ x) (hs : x ≤ s) : 0 ≤ mF s n ps x ∧ mF s n ps x ≤ 2100000000000 ∧ 0 ≤ mT n ps x ∧ mT n ps x ≤ 2100000000000 := by
  obtain ⟨b1, b2, b3, b4, _, _⟩ := all_bd hG
  obtain ⟨o1, o2, o3, o4, _⟩ := okL_bd (p := (x, n)) hG.1 ⟨⟨h0, hs⟩, hn⟩
  dsimp only at o1 o2 o3 o4
  unfold mF mT
  omega
theorem lim_bd {s lim : Int} (hs : Btw s 1 100000) (hl : Ld lim) : 0 ≤ lim * s ∧ lim * s ≤ 100000000000 := by
  obtain ⟨s1, s2⟩ := hs
  obtain ⟨l1, l2⟩ := hl
  exact ⟨Int.mul_nonneg l1 (by omega), Int.le_trans (Int.mul_le_mul l2 s2 (by omega) (by omega)) (by omega)⟩

def wkA (s lim n : Int) (ps : List (Int × Int)) : Int := wLo (fS s ps) n (lim * s) s
def wkB (s lim n : Int) (ps : List (Int × Int)) : Int := wHi (sS ps) n (lim * s) s
def waE (s lim n : Int) (ps : List (Int × Int)) : Int := if GoodL s ps then if Ld n ∧ Ld lim then if wkA s lim n ps ≤ wkB s lim n ps then 0 else 8 else 7 else 1
def waL (s lim n : Int) (ps : List (Int × Int)) : Int := if waE s lim n ps = 0 then wkA s lim n ps else 0
def waH (s lim n : Int) (ps : List (Int × Int)) : Int := if waE s lim n ps = 0 then wkB s lim n ps else 0
theorem wa_bad {s lim n : Int} {ps : List (Int × Int)} (h : ¬ GoodL s ps) : waE s lim n ps = 1 ∧ waL s lim n ps = 0 ∧ waH s lim n ps = 0 := by simp [waE, waL, waH, h]
theorem wa_range {s lim n : Int} {ps : List (Int × Int)} (h : GoodL s ps) (h' : ¬ (Ld n ∧ Ld lim)) : waE s lim n ps = 7 ∧ waL s lim n ps = 0 ∧ waH s lim n ps = 0 := by simp [waE, waL, waH, h, h']
theorem wa_none {s lim n : Int} {ps : List (Int × Int)} (h : GoodL s ps) (h' : Ld n ∧ Ld lim) (hx : ¬ wkA s lim n ps ≤ wkB s lim n ps) : waE s lim n ps = 8 ∧ waL s lim n ps = 0 ∧ waH s lim n ps = 0 := by simp [waE, waL, waH, h, h', hx]
theorem wa_ok {s lim n : Int} {ps : List (Int × Int)} (h : GoodL s ps) (h' : Ld n ∧ Ld lim) (hx : wkA s lim n ps ≤ wkB s lim n ps) : waE s lim n ps = 0 ∧ waL s lim n ps = wkA s lim n ps ∧ waH s lim n ps = wkB s lim n ps := by simp [waE, waL, waH, h, h', hx]

/-- The two searches. -/
theorem walk_turns {s lim n : Int} {ps : List (Int × Int)} (hG : GoodL s ps) (h : Ld n ∧ Ld lim) :
    ∃ r1 r2 : Nat, r1 ≤ s.toNat + 1 ∧ r2 ≤ s.toNat + 1 ∧
      (∀ i, i < r1 → decide (mF s n ps i ≤ lim * s) = false) ∧ (∀ i, r1 ≤ i → i < s.toNat + 1 → decide (mF s n ps i ≤ lim * s) = true) ∧
      (∀ i, i < r2 → decide (lim * s < mT n ps i) = false) ∧ (∀ i, r2 ≤ i → i < s.toNat + 1 → decide (lim * s < mT n ps i) = true) ∧
      (wkA s lim n ps ≤ wkB s lim n ps → r1 < r2 ∧ (r1 : Int) = wkA s lim n ps ∧ (r2 : Int) - 1 = wkB s lim n ps) ∧ (¬ wkA s lim n ps ≤ wkB s lim n ps → r2 ≤ r1) := by
  obtain ⟨s1, s2⟩ := hG.1
  have hn := h.1.1
  have hA0 : 0 ≤ wkA s lim n ps := wLo_nonneg (by omega)
  have hBs : wkB s lim n ps ≤ s := wHi_le (by omega)
  have HA : ∀ i : Nat, i < s.toNat + 1 → (mF s n ps i ≤ lim * s ↔ wkA s lim n ps ≤ (i : Int)) := fun i hi => wLo_iff hn (by omega) (by omega)
  have HB : ∀ i : Nat, i < s.toNat + 1 → (mT n ps i ≤ lim * s ↔ (i : Int) ≤ wkB s lim n ps) := fun i hi => wHi_iff hn (by omega) (by omega)
  obtain ⟨r1, e1, f1, g1⟩ := turn_at (fun i => decide (mF s n ps i ≤ lim * s)) (s.toNat + 1) (fun i j hij hj hb => by
    have a1 := HA i (by omega)
    have a2 := HA j hj
    have hb := of_decide_eq_true hb
    exact decide_eq_true (by omega))
  obtain ⟨r2, e2, f2, g2⟩ := turn_at (fun i => decide (lim * s < mT n ps i)) (s.toNat + 1) (fun i j hij hj hb => by
    have a1 := HB i (by omega)
    have a2 := HB j hj
    have hb := of_decide_eq_true hb
    exact decide_eq_true (by omega))
  refine ⟨r1, r2, e1, e2, f1, g1, f2, g2, ?_, ?_⟩
  · intro hx
    have p1 : (r1 : Int) = wkA s lim n ps := by
      rcases Int.lt_or_le r1 (wkA s lim n ps) with h1 | h1
      · have := of_decide_eq_true (g1 r1 (by omega) (by omega))
        have := HA r1 (by omega)
        omega
      · rcases Int.lt_or_le (wkA s lim n ps) r1 with h2 | h2
        · have e := of_decide_eq_false (f1 (wkA s lim n ps).toNat (by omega))
          have := HA (wkA s lim n ps).toNat (by omega)
          omega
        · omega
    have p2 : (r2 : Int) - 1 = wkB s lim n ps := by
      rcases Int.lt_or_le (wkB s lim n ps) (r2 - 1) with h1 | h1
      · have e := of_decide_eq_false (f2 (r2 - 1) (by omega))
        have := HB (r2 - 1) (by omega)
        omega
      · rcases Int.lt_or_le (r2 - 1) (wkB s lim n ps) with h2 | h2
        · have e := of_decide_eq_true (g2 r2 (by omega) (by omega))
          have := HB r2 (by omega)
          omega
        · omega
    exact ⟨by omega, p1, p2⟩
  · intro hx
    rcases Nat.lt_or_ge r1 r2 with h1 | h1
    · have a1 := of_decide_eq_true (g1 r1 (by omega) (by omega))
      have a2 := of_decide_eq_false (f2 r1 h1)
      have := HA r1 (by omega)
      have := HB r1 (by omega)
      omega
    · exact h1

/-- The difference of the shares at a place. -/
def dif (s n : Int) (ps : List (Int × Int)) (x : Int) : Int := fS s ps - sS ps + n * (s - 2 * x)
theorem dif_eq {s n x : Int} {ps : List (Int × Int)} : mF s n ps x - mT n ps x = dif s n ps x := by unfold mF mT dif; grind
theorem dif_next {s n x : Int} {ps : List (Int × Int)} : dif s n ps (x + 1) = dif s n ps x - 2 * n := by unfold dif; grind
theorem dif_bd {s n x : Int} {ps : List (Int × Int)} (hG : GoodL s ps) (hn : Ld n) (h0 : 0 ≤ x) (hs : x ≤ s) : -2100000000000 ≤ dif s n ps x ∧ dif s n ps x ≤ 2100000000000 := by
  have := man_bd hG hn h0 hs
  have := dif_eq (s := s) (n := n) (x := x) (ps := ps)
  omega
def dA (s n : Int) (ps : List (Int × Int)) (x : Nat) : Int := (dif s n ps x).natAbs
theorem dA_le {s n : Int} {ps : List (Int × Int)} (hn : 1 ≤ n) (x : Nat) : dA s n ps x ≤ dA s n ps (x + 1) ↔ dif s n ps x ≤ n := by
  unfold dA
  have := dif_next (s := s) (n := n) (x := x) (ps := ps)
  rw [show (((x + 1 : Nat)) : Int) = (x : Int) + 1 by omega, this]
  omega
/-- The first of the least differences among the first k + 1 places. -/
def lvI (s n : Int) (ps : List (Int × Int)) : Nat → Nat
  | 0 => 0
  | k + 1 => if dA s n ps (k + 1) < dA s n ps (lvI s n ps k) then k + 1 else lvI s n ps k
theorem lvI_le {s n : Int} {ps : List (Int × Int)} : ∀ k, lvI s n ps k ≤ k
  | 0 => by simp [lvI]
  | k + 1 => by
    have := lvI_le (s := s) (n := n) (ps := ps) k
    unfold lvI
    split <;> omega
theorem dA_grows {s n : Int} {ps : List (Int × Int)} (hn : 1 ≤ n) {r : Nat} (hr : dif s n ps r ≤ n) : ∀ k, r ≤ k → dif s n ps k ≤ n ∧ dA s n ps r ≤ dA s n ps k
  | 0, h => by obtain rfl : r = 0 := by omega
               exact ⟨hr, Int.le_refl _⟩
  | k + 1, h => by
    rcases Nat.lt_or_ge k r with h1 | h1
    · obtain rfl : r = k + 1 := by omega
      exact ⟨hr, Int.le_refl _⟩
    · obtain ⟨h2, h3⟩ := dA_grows hn hr k h1
      have h4 := (dA_le (s := s) (ps := ps) hn k).2 h2
      have h5 := dif_next (s := s) (n := n) (x := k) (ps := ps)
      rw [show (((k + 1 : Nat)) : Int) = (k : Int) + 1 by omega]
      exact ⟨by omega, by omega⟩
theorem lvI_min {s n : Int} {ps : List (Int × Int)} (hn : 1 ≤ n) {r : Nat} (hf : ∀ i, i < r → ¬ dif s n ps i ≤ n) (hr : ∀ k, r < k → dA s n ps r ≤ dA s n ps k) : ∀ k, lvI s n ps k = min k r
  | 0 => by simp [lvI]
  | k + 1 => by
    have ih := lvI_min hn hf hr k
    unfold lvI
    rw [ih]
    rcases Nat.lt_or_ge k r with h1 | h1
    · rw [show min k r = k by omega, show min (k + 1) r = k + 1 by omega]
      have := (not_congr (dA_le (s := s) (ps := ps) hn k)).2 (hf k h1)
      rw [if_pos (by omega)]
    · rw [show min k r = r by omega, show min (k + 1) r = r by omega]
      rw [if_neg (by have := hr (k + 1) (by omega); omega)]
theorem level_turn {s n : Int} {ps : List (Int × Int)} (hn : 1 ≤ n) (_hs : 0 ≤ s) :
    ∃ r : Nat, r ≤ s.toNat ∧ (∀ i, i < r → decide (dA s n ps i ≤ dA s n ps (i + 1)) = false) ∧ (∀ i, r ≤ i → i < s.toNat → decide (dA s n ps i ≤ dA s n ps (i + 1)) = true) ∧ lvI s n ps s.toNat = r := by
  obtain ⟨r, e1, f1, g1⟩ := turn_at (fun i => decide (dA s n ps i ≤ dA s n ps (i + 1))) s.toNat (fun i j hij hj hb => by
    have h1 := (dA_le (s := s) (ps := ps) hn i).1 (of_decide_eq_true hb)
    exact decide_eq_true ((dA_le (s := s) (ps := ps) hn j).2 (dA_grows hn h1 j hij).1))
  refine ⟨r, e1, f1, g1, ?_⟩
  have hf : ∀ i, i < r → ¬ dif s n ps i ≤ n := fun i hi h => of_decide_eq_false (f1 i hi) ((dA_le (s := s) (ps := ps) hn i).2 h)
  rcases Nat.lt_or_ge r s.toNat with h1 | h1
  · have hr := (dA_le (s := s) (ps := ps) hn r).1 (of_decide_eq_true (g1 r (Nat.le_refl _) h1))
    rw [lvI_min hn hf (fun k hk => (dA_grows hn hr k (by omega)).2) s.toNat]
    omega
  · obtain rfl : r = s.toNat := by omega
    have : ∀ k, k ≤ s.toNat → lvI s n ps k = k := by
      intro k
      induction k with
      | zero => intro _; rfl
      | succ k ih =>
        intro hk
        unfold lvI
        rw [ih (by omega)]
        have := (not_congr (dA_le (s := s) (ps := ps) hn k)).2 (hf k (by omega))
        rw [if_pos (by omega)]
    exact this _ (Nat.le_refl _)

def leE (s n : Int) (ps : List (Int × Int)) : Int := if GoodL s ps then if Btw n 1 1000000 then 0 else 7 else 1
def leV (s n : Int) (ps : List (Int × Int)) : Int := if leE s n ps = 0 then (lvI s n ps s.toNat : Int) else 0
theorem le_bad {s n : Int} {ps : List (Int × Int)} (h : ¬ GoodL s ps) : leE s n ps = 1 ∧ leV s n ps = 0 := by simp [leE, leV, h]
theorem le_range {s n : Int} {ps : List (Int × Int)} (h : GoodL s ps) (h' : ¬ Btw n 1 1000000) : leE s n ps = 7 ∧ leV s n ps = 0 := by simp [leE, leV, h, h']
theorem le_ok {s n : Int} {ps : List (Int × Int)} (h : GoodL s ps) (h' : Btw n 1 1000000) : leE s n ps = 0 ∧ leV s n ps = (lvI s n ps s.toNat : Int) := by simp [leE, leV, h, h']
end Go.Proofs.Ytnhkkboddoiinaa
