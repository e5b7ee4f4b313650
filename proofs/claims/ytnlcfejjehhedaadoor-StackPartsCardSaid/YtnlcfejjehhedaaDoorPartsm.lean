/- Plain mathematics: a fraction of a whole in lowest terms, and its parts. -/
import Derived.Test.YtnlcfejjehhedaaDoorRMath
namespace Go.Proofs.YtnlcfejjehhedaaDoor

/-- N / D is e / w in lowest terms: D goes into w. -/
def Dv (w N D e : Int) : Prop := 1 ≤ D ∧ D ≤ 60000000 ∧ -300000000000 ≤ N ∧ N ≤ 300000000000 ∧ 0 ≤ w / D ∧ w / D ≤ 60000000 ∧ w % D = 0 ∧ N * (w / D) = e
theorem abs_grow {g N : Int} (hg : 1 ≤ g) : (0 ≤ N → N ≤ g * N) ∧ (N ≤ 0 → g * N ≤ N) := by
  constructor
  · intro h
    have : 0 ≤ (g - 1) * N := Int.mul_nonneg (by omega) h
    rw [Int.sub_mul, Int.one_mul] at this
    omega
  · intro h
    have : (g - 1) * N ≤ 0 := Int.mul_nonpos_of_nonneg_of_nonpos (by omega) h
    rw [Int.sub_mul, Int.one_mul] at this
    omega
theorem dv_rat {e w : Int} (h1 : 1 ≤ w) (h2 : w ≤ 60000000) (h3 : -300000000000 ≤ e) (h4 : e ≤ 300000000000) : Dv w (ratN e w) (ratD e w) e := by
  obtain ⟨e1, e2, e3, e4, _⟩ := rat_facts (n := e) (d := w) h1
  unfold Dv
  generalize ratN e w = N at *
  generalize ratD e w = D at *
  generalize (Int.gcd e w : Int) = g at *
  subst e1 e2
  obtain ⟨a1, a2⟩ := abs_grow (N := N) e3
  obtain ⟨a3, _⟩ := abs_grow (N := D) e3
  have a4 : g ≤ g * D := by
    obtain ⟨b, _⟩ := abs_grow (g := D) (N := g) e4
    have := b (by omega)
    rwa [Int.mul_comm] at this
  have := a3 (by omega)
  have q : g * D / D = g := Int.mul_ediv_cancel _ (by omega)
  rw [q]
  refine ⟨e4, by omega, ?_, ?_, by omega, by omega, Int.mul_emod_left .., Int.mul_comm ..⟩
  · rcases Int.le_total 0 N with h | h
    · omega
    · have := a2 h; omega
  · rcases Int.le_total 0 N with h | h
    · have := a1 h; omega
    · omega
theorem dv_zero : Dv 0 0 1 0 := by unfold Dv; simp
/-- A fraction in lowest terms times a number. -/
theorem rat_times {n d p : Int} (hd : 1 ≤ d) : ratN (ratN (1 * n) d * p) (ratD (1 * n) d) = ratN (p * n) d ∧ ratD (ratN (1 * n) d * p) (ratD (1 * n) d) = ratD (p * n) d := by
  obtain ⟨e1, e2, e3, e4, _⟩ := rat_facts (n := 1 * n) (d := d) hd
  refine rat_one e4 hd ?_
  generalize ratN (1 * n) d = N at *
  generalize ratD (1 * n) d = D at *
  generalize (Int.gcd (1 * n) d : Int) = g at *
  grind
theorem rat_small {n d A : Int} (hd : 1 ≤ d) (h1 : -A ≤ n) (h2 : n ≤ A) : -A ≤ ratN n d ∧ ratN n d ≤ A ∧ 1 ≤ ratD n d ∧ ratD n d ≤ d := by
  obtain ⟨e1, e2, e3, e4, _⟩ := rat_facts (n := n) (d := d) hd
  generalize ratN n d = N at *
  generalize ratD n d = D at *
  generalize (Int.gcd n d : Int) = g at *
  obtain ⟨a1, a2⟩ := abs_grow (N := N) e3
  obtain ⟨a3, _⟩ := abs_grow (N := D) e3
  have := a3 (by omega)
  refine ⟨?_, ?_, e4, by omega⟩
  · rcases Int.le_total 0 N with h | h
    · have := a1 h; omega
    · have := a2 h; omega
  · rcases Int.le_total 0 N with h | h
    · have := a1 h; omega
    · have := a2 h; omega
end Go.Proofs.YtnlcfejjehhedaaDoor
