/- Winds of turned and of shifted stacks: plain mathematics. -/
import Derived.Test.YtplhbklfaokjbaaDoorSafes
import Derived.Test.YtplhbklfaokjbaaDoorMoves
namespace Go.Proofs.YtplhbklfaokjbaaDoor
open Go.RowKit

theorem bT_rot (f : Nat → Nat → Int) (n : Nat) : ∀ j, (bT (rotC f) n j).wt = (bT f n j).wt ∧ (bT (rotC f) n j).ea = -(bT f n j).no ∧ (bT (rotC f) n j).no = (bT f n j).ea ∧ (bT (rotC f) n j).fa = (bT f n j).fa ∧ (bT (rotC f) n j).pu = (bT f n j).pu
  | 0 => by simp [bT, zbed]
  | j + 1 => by
    obtain ⟨h1, h2, h3, h4, h5⟩ := bT_rot f n j
    simp only [bT, BedV.onto, h1, h2, h3, h4, h5, rotC]
    simp [Int.mul_neg, Int.neg_add]
theorem bT_sh (f : Nat → Nat → Int) (x y : Int) (n : Nat) : ∀ j, (bT (shC f x y) n j).wt = (bT f n j).wt ∧ (bT (shC f x y) n j).ea = (bT f n j).ea + (bT f n j).wt * x ∧ (bT (shC f x y) n j).no = (bT f n j).no + (bT f n j).wt * y ∧ (bT (shC f x y) n j).fa = (bT f n j).fa ∧ (bT (shC f x y) n j).pu = (bT f n j).pu
  | 0 => by simp [bT, zbed]
  | j + 1 => by
    obtain ⟨h1, h2, h3, h4, h5⟩ := bT_sh f x y n j
    simp only [bT, BedV.onto, h1, h2, h3, h4, h5, shC]
    refine ⟨?_, ?_, ?_, ?_, ?_⟩
    · simp
    · simp only [if_true, Int.mul_add, Int.add_mul, if_false, Nat.reduceEqDiff]; omega
    · simp only [if_true, Int.mul_add, Int.add_mul, if_false, Nat.reduceEqDiff]; omega
    · simp
    · simp
theorem aw_next (s : Nat) (hs : s < 4) : awE ((s + 1) % 4) = -awN s ∧ awN ((s + 1) % 4) = awE s := by
  rcases (show s = 0 ∨ s = 1 ∨ s = 2 ∨ s = 3 by omega) with rfl | rfl | rfl | rfl <;> simp [awE, awN]
theorem am_rot {f : Nat → Nat → Int} {n k : Nat} (hk : k < n) (p : Int) {s : Nat} (hs : s < 4) : amE (bI (rotC f) n k) p ((s + 1) % 4) = -amN (bI f n k) p s ∧ amN (bI (rotC f) n k) p ((s + 1) % 4) = amE (bI f n k) p s := by
  obtain ⟨h1, h2, h3, h4, h5⟩ := bT_rot f n (n - k)
  obtain ⟨e1, e2⟩ := aw_next s hs
  have c1 := (bI_ix (f := rotC f) hk).2
  have c2 := (bI_ix (f := f) hk).2
  unfold amE amN
  rw [c1, c2, e1, e2]
  unfold bI
  rw [h1, h2, h3, h5]
  simp only [rotC, if_true, Int.mul_neg, Int.neg_mul, if_false, Nat.reduceEqDiff]
  generalize (bT f n (n - k)).wt * f k 5 = u
  generalize (bT f n (n - k)).wt * f k 4 = v
  generalize awN s * p * (bT f n (n - k)).pu = y
  exact ⟨by omega, trivial⟩
theorem clB_rot {f : Nat → Nat → Int} {n k : Nat} (hk : k < n) (p : Int) {s : Nat} (hs : s < 4) : clB (bI (rotC f) n k) p ((s + 1) % 4) = clB (bI f n k) p s := by
  obtain ⟨a1, a2⟩ := am_rot (f := f) hk p hs
  obtain ⟨h1, -⟩ := bT_rot f n (n - k)
  have c1 := (bI_ix (f := rotC f) hk).2
  have c2 := (bI_ix (f := f) hk).2
  unfold clB
  rw [a1, a2, c1, c2, show (bI (rotC f) n k).wt = (bI f n k).wt from h1, Int.natAbs_neg, Nat.add_comm (amN (bI f n k) p s).natAbs]
  simp [rotC]
theorem am_sh {f : Nat → Nat → Int} {n k : Nat} (hk : k < n) (x y p : Int) (s : Nat) : amE (bI (shC f x y) n k) p s = amE (bI f n k) p s ∧ amN (bI (shC f x y) n k) p s = amN (bI f n k) p s := by
  obtain ⟨h1, h2, h3, h4, h5⟩ := bT_sh f x y n (n - k)
  have c1 := (bI_ix (f := shC f x y) hk).2
  have c2 := (bI_ix (f := f) hk).2
  unfold amE amN
  rw [c1, c2]
  unfold bI
  rw [h1, h2, h3, h5]
  simp only [shC, if_true, Int.mul_add, if_false, Nat.reduceEqDiff]
  constructor <;> (congr 1; congr 1; omega)
theorem clB_sh {f : Nat → Nat → Int} {n k : Nat} (hk : k < n) (x y p : Int) (s : Nat) : clB (bI (shC f x y) n k) p s = clB (bI f n k) p s := by
  obtain ⟨a1, a2⟩ := am_sh (f := f) hk x y p s
  obtain ⟨h1, -⟩ := bT_sh f x y n (n - k)
  have c1 := (bI_ix (f := shC f x y) hk).2
  have c2 := (bI_ix (f := f) hk).2
  unfold clB
  rw [a1, a2, c1, c2, show (bI (shC f x y) n k).wt = (bI f n k).wt from h1]
  simp [shC]
theorem tiB_congr {f g : Nat → Nat → Int} {n : Nat} {p : Int} {s t : Nat} (h : ∀ k, k < n → clB (bI f n k) p s = clB (bI g n k) p t) : tiB f n p s = tiB g n p t := by
  unfold tiB
  exact decide_eq_decide.2 ⟨fun hh k hk => (h k hk).symm.trans (hh k hk), fun hh k hk => (h k hk).trans (hh k hk)⟩
theorem sa_congr {f g : Nat → Nat → Int} {n s t : Nat} (h : ∀ p : Int, tiB f n p s = tiB g n p t) : saV f n s = saV g n t ∧ saE f n s = saE g n t := by
  have e : (fun i : Nat => tiB f n (i : Int) s) = (fun i : Nat => tiB g n (i : Int) t) := funext fun i => h i
  unfold saV saE saN
  rw [e, h 0]
  exact ⟨rfl, rfl⟩
theorem sa_rot (f : Nat → Nat → Int) (n : Nat) {s : Nat} (hs : s < 4) : saV (rotC f) n ((s + 1) % 4) = saV f n s ∧ saE (rotC f) n ((s + 1) % 4) = saE f n s :=
  sa_congr fun p => tiB_congr fun _ hk => clB_rot hk p hs
theorem sa_sh (f : Nat → Nat → Int) (n s : Nat) (x y : Int) : saV (shC f x y) n s = saV f n s ∧ saE (shC f x y) n s = saE f n s :=
  sa_congr fun p => tiB_congr fun _ hk => clB_sh hk x y p s
theorem cellsArr2 : Tryd.prog.cellsOf 58 = 2 := by kernel_rfl
end Go.Proofs.YtplhbklfaokjbaaDoor
