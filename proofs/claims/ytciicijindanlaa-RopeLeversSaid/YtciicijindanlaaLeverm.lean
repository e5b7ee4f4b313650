/- Plain mathematics of levers: the shares add up; a load that is moved. -/
import Derived.Test.YtciicijindanlaaSharesb
import Derived.Test.YtciicijindanlaaGainm
namespace Go.Proofs.Ytciicijindanlaa

theorem ratD_le {n d : Int} (hd : 1 ≤ d) : ratD n d ≤ d := by
  obtain ⟨e1, e2, e3, e4, _⟩ := rat_facts (n := n) hd
  have : 1 * ratD n d ≤ (Int.gcd n d : Int) * ratD n d := Int.mul_le_mul_of_nonneg_right e3 (by omega)
  omega
theorem ratN_le {n d : Int} (hd : 1 ≤ d) (hn : 0 ≤ n) : 0 ≤ ratN n d ∧ ratN n d ≤ n := by
  obtain ⟨e1, e2, e3, e4, _⟩ := rat_facts (n := n) hd
  have h0 : 0 ≤ ratN n d := by
    rcases Int.lt_or_le (ratN n d) 0 with h | h
    · have : (Int.gcd n d : Int) * ratN n d < 0 := Int.mul_neg_of_pos_of_neg (by omega) h
      omega
    · exact h
  have : 1 * ratN n d ≤ (Int.gcd n d : Int) * ratN n d := Int.mul_le_mul_of_nonneg_right e3 h0
  omega
/-- Two fractions over s, added up. -/
theorem rat_sum {F T A s : Int} (hs : 1 ≤ s) (h : F + T = A * s) : ratN (ratN F s * ratD T s + ratN T s * ratD F s) (ratD F s * ratD T s) = A ∧ ratD (ratN F s * ratD T s + ratN T s * ratD F s) (ratD F s * ratD T s) = 1 := by
  obtain ⟨e1, e2, e3, e4, _⟩ := rat_facts (n := F) hs
  obtain ⟨f1, f2, f3, f4, _⟩ := rat_facts (n := T) hs
  have hD : 1 ≤ ratD F s * ratD T s := by have := Int.mul_pos (show 0 < ratD F s by omega) (show 0 < ratD T s by omega); omega
  have hg : (1 : Int) ≤ (Int.gcd F s : Int) * (Int.gcd T s : Int) := by
    have := Int.mul_pos (show (0 : Int) < Int.gcd F s by omega) (show (0 : Int) < Int.gcd T s by omega)
    omega
  have e : (ratN F s * ratD T s + ratN T s * ratD F s) * 1 = A * (ratD F s * ratD T s) := by
    refine Int.eq_of_mul_eq_mul_left (a := (Int.gcd F s : Int) * (Int.gcd T s : Int)) (by omega) ?_
    generalize (Int.gcd F s : Int) = g at *
    generalize (Int.gcd T s : Int) = k at *
    generalize ratN F s = a at *
    generalize ratD F s = b at *
    generalize ratN T s = c at *
    generalize ratD T s = d at *
    have h1 : g * k * ((a * d + c * b) * 1) = F * s + T * s := by rw [← e1, ← f1]; conv => rhs; rw [← f2]
                                                                  have : k * d = g * b := by rw [e2, f2]
                                                                  grind
    have h2 : g * k * (A * (b * d)) = A * s * s := by
      have : g * k * (A * (b * d)) = A * (g * b) * (k * d) := by grind
      rw [this, e2, f2]
    rw [h1, h2, ← h]; grind
  have := rat_one hD (show (1 : Int) ≤ 1 by omega) e
  rw [(rat_int A).1, (rat_int A).2] at this
  exact this

theorem set_at : ∀ (ps : List (Int × Int)) (i : Nat) (q : Int × Int) (j : Nat), i < ps.length → ldAt (ps.set i q) j = if j = i then q else ldAt ps j
  | [], i, _, _, h => by simp at h
  | p :: ps, i, q, j, h => by
    unfold ldAt
    simp only [List.getD_eq_getElem?_getD, List.getElem?_set, List.length_cons]
    by_cases e : i = j
    · subst e; simp at h; simp [h]
    · have : ¬ j = i := fun h => e h.symm
      simp [e, this]
theorem sS_set {to : Int} : ∀ {ps : List (Int × Int)} {i : Nat}, i < ps.length → sS (ps.set i (to, (ldAt ps i).2)) = sS ps + (ldAt ps i).2 * (to - (ldAt ps i).1)
  | [], i, h => by simp at h
  | p :: ps, 0, _ => by simp [sS, ldAt]; grind
  | p :: ps, i + 1, h => by
    have := sS_set (to := to) (ps := ps) (i := i) (by simpa using h)
    simp only [sS, ldAt, List.set_cons_succ, List.map_cons, List.sum_cons, List.getD_cons_succ] at *
    omega
theorem aS_set {to : Int} : ∀ {ps : List (Int × Int)} {i : Nat}, i < ps.length → aS (ps.set i (to, (ldAt ps i).2)) = aS ps
  | [], i, h => by simp at h
  | p :: ps, 0, _ => by simp [aS, ldAt]
  | p :: ps, i + 1, h => by
    have := aS_set (to := to) (ps := ps) (i := i) (by simpa using h)
    simp only [aS, ldAt, List.set_cons_succ, List.map_cons, List.sum_cons, List.getD_cons_succ] at *
    omega
theorem goodL_set {s to : Int} {ps : List (Int × Int)} {i : Nat} (hG : GoodL s ps) (h : i < ps.length) (h1 : (ldAt ps i).1 ≤ to) (h2 : to ≤ s) : GoodL s (ps.set i (to, (ldAt ps i).2)) := by
  obtain ⟨a, b, c⟩ := hG
  refine ⟨a, by simpa using b, fun k hk => ?_⟩
  rw [set_at ps i _ k h]
  split
  · have := c i h
    exact ⟨⟨by have := this.1.1; omega, h2⟩, this.2⟩
  · exact c k (by simpa using hk)
/-- A load that is moved towards the second rope makes its share no less. -/
theorem lever_moved {s to : Int} {ps : List (Int × Int)} {i : Nat} (hG : GoodL s ps) (h : i < ps.length) (h1 : (ldAt ps i).1 ≤ to) (h2 : to ≤ s) :
    GoodL s (ps.set i (to, (ldAt ps i).2)) ∧ sS ps ≤ sS (ps.set i (to, (ldAt ps i).2)) ∧ fS s (ps.set i (to, (ldAt ps i).2)) ≤ fS s ps := by
  have e1 := sS_set (to := to) h
  have e2 := aS_set (to := to) h
  have e3 := fS_add s ps
  have e4 := fS_add s (ps.set i (to, (ldAt ps i).2))
  rw [e2] at e4
  have := (hG.2.2 i h).2.1
  have hm : 0 ≤ (ldAt ps i).2 * (to - (ldAt ps i).1) := Int.mul_nonneg this (by omega)
  exact ⟨goodL_set hG h h1 h2, by omega, by omega⟩
theorem cmp_over {F M d : Int} (hd : 1 ≤ d) : (F ≤ M → cmpR (ratN F d) (ratD F d) (ratN M d) (ratD M d) ≤ 0) ∧ (M ≤ F → 0 ≤ cmpR (ratN F d) (ratD F d) (ratN M d) (ratD M d)) := by
  rw [cmp_rat hd hd]
  unfold cmp3
  refine ⟨fun h => ?_, fun h => ?_⟩
  · have : F * d ≤ M * d := Int.mul_le_mul_of_nonneg_right h (by omega)
    split
    · omega
    · rw [if_neg (by omega)]; omega
  · have : M * d ≤ F * d := Int.mul_le_mul_of_nonneg_right h (by omega)
    rw [if_neg (by omega)]
    split <;> omega
end Go.Proofs.Ytciicijindanlaa
