/- The beds of a stack with a course divided: plain mathematics; Weight, Centre and Moment of a bed. -/
import Derived.Test.YtplhbklfaokjbaaDoorMakes
namespace Go.Proofs.YtplhbklfaokjbaaDoor
open Go.RowKit

/-- Two beds with the same loads above them. -/
def EqB (u v : BedV) : Prop := u.wt = v.wt ∧ u.ea = v.ea ∧ u.no = v.no ∧ u.fa = v.fa ∧ u.pu = v.pu
theorem EqB.onto {u v : BedV} (h : EqB u v) (i j : Int) (c : Nat → Int) : EqB (u.onto i c) (v.onto j c) := by
  obtain ⟨h1, h2, h3, h4, h5⟩ := h
  simp only [EqB, BedV.onto, h1, h2, h3, h4, h5, and_self]
theorem EqB.two {u v : BedV} (h : EqB u v) (f : Nat → Nat → Int) (k : Nat) (t i j l : Int) : EqB ((u.onto i (upD f k t)).onto j (loC f k t)) (v.onto l (f k)) := by
  obtain ⟨h1, h2, h3, h4, h5⟩ := h
  simp only [EqB, BedV.onto, h1, h2, h3, h4, h5]
  obtain ⟨s, hs⟩ : ∃ s, f k 0 - t = s := ⟨_, rfl⟩
  have e0 : f k 0 = s + t := by omega
  simp only [upD, loC, e0, Int.add_sub_cancel]
  generalize loW f k t = L
  generalize f k 1 = o
  generalize f k 3 = W
  generalize f k 4 = x
  generalize f k 5 = y
  simp only [if_true, if_false, Nat.reduceEqDiff]
  refine ⟨by omega, ?_, ?_, ?_, ?_⟩
  · simp only [Int.sub_mul]; omega
  · simp only [Int.sub_mul]; omega
  · simp only [Int.mul_add]; omega
  · simp only [Int.mul_add, Int.add_mul, Int.mul_comm, Int.mul_left_comm, Int.mul_assoc]
    have e2 : t * (s * (o * 2)) = 2 * (t * (s * o)) := by rw [← Int.mul_assoc, ← Int.mul_assoc, Int.mul_comm, Int.mul_assoc t s o]
    omega
theorem sp_bed {n k : Nat} (hk : k < n) (f : Nat → Nat → Int) (t : Int) : ∀ j, j ≤ n → k < j → EqB (bI (spC f k t) (n + 1) (j + 1)) (bI f n j) := by
  have H : ∀ m j, j + m = n → k < j → EqB (bI (spC f k t) (n + 1) (j + 1)) (bI f n j) := by
    intro m
    induction m with
    | zero =>
      intro j hj _
      obtain rfl : j = n := by omega
      rw [bI_top, bI_top]
      exact ⟨rfl, rfl, rfl, rfl, rfl⟩
    | succ m ih =>
      intro j hj hkj
      rw [bI_next (show j + 1 < n + 1 by omega), bI_next (show j < n by omega)]
      have e : spC f k t (j + 1) = f j := by unfold spC; rw [if_neg (by omega), if_neg (by omega), if_neg (by omega)]; simp
      rw [e]
      exact (ih (j + 1) (by omega) (by omega)).onto _ _ _
  exact fun j hj hkj => H (n - j) j (by omega) hkj
theorem sp_low {n k : Nat} (hk : k < n) (f : Nat → Nat → Int) (t : Int) : ∀ j, j ≤ k → EqB (bI (spC f k t) (n + 1) j) (bI f n j) := by
  have H : ∀ m j, j + m = k → EqB (bI (spC f k t) (n + 1) j) (bI f n j) := by
    intro m
    induction m with
    | zero =>
      intro j hj
      obtain rfl : j = k := by omega
      rw [bI_next (show j < n + 1 by omega), bI_next (show j + 1 < n + 1 by omega), bI_next hk]
      have e1 : spC f j t j = loC f j t := by unfold spC; rw [if_neg (by omega), if_pos rfl]
      have e2 : spC f j t (j + 1) = upD f j t := by unfold spC; rw [if_neg (by omega), if_neg (by omega), if_pos rfl]
      rw [e1, e2]
      exact (sp_bed hk f t (j + 1) (by omega) (by omega)).two f j t _ _ _
    | succ m ih =>
      intro j hj
      rw [bI_next (show j < n + 1 by omega), bI_next (show j < n by omega)]
      have e : spC f k t j = f j := if_pos (by omega)
      rw [e]
      exact (ih (j + 1) (by omega)).onto _ _ _
  exact fun j hj => H (k - j) j (by omega)

theorem bsay_in {w : World} {v : Value} {n : Nat} {f : Nat → Nat → Int} (h : Crs w w.heap.size v n f) (hG : GoodC n f) {j : Nat} (hj : j < n) : BSay w v (j : Nat) (bI f n j) 0 := by
  have := bsay h (by have := hG.2.1; omega) (j : Nat)
  rwa [if_pos hG, if_pos hG, show bdV f n (j : Nat) = bI f n j by unfold bdV; rw [if_pos (by omega)]; simp, show bdE n (j : Nat) = 0 from if_pos (by omega)] at this
theorem weight_in {w : World} {a : Option Addr} {n cap : Nat} {f : Nat → Nat → Int} (h : Crs w w.heap.size (.slice a n cap) n f) (hG : GoodC n f) {j : Nat} (hj : j < n) :
    LSay w 19 #[.slice a n cap, .int .i64 (j : Nat)] (.tuple #[.int .i64 (bI f n j).wt, .int .i64 0]) := fun W hW => weight_any a n cap _ _ _ W ((bsay_in h hG hj).on2 hW)
theorem centre_in {w : World} {a : Option Addr} {n cap : Nat} {f : Nat → Nat → Int} (h : Crs w w.heap.size (.slice a n cap) n f) (hG : GoodC n f) {j : Nat} (hj : j < n) :
    LSay w 21 #[.slice a n cap, .int .i64 (j : Nat)] (.tuple #[.agg #[.int .i64 (ratN (bI f n j).ea (bI f n j).wt), .int .i64 (ratD (bI f n j).ea (bI f n j).wt)], .agg #[.int .i64 (ratN (bI f n j).no (bI f n j).wt), .int .i64 (ratD (bI f n j).no (bI f n j).wt)], .int .i64 0]) := fun W hW => centre_ok a n cap _ _ W ((bsay_in h hG hj).on2 hW) (inB_bI hG hj)
theorem moment_in {w : World} {a : Option Addr} {n cap : Nat} {f : Nat → Nat → Int} (h : Crs w w.heap.size (.slice a n cap) n f) (hG : GoodC n f) {j : Nat} (hj : j < n) (p : Int) (h0 : 0 ≤ p) (h1 : p ≤ 10000) :
    LSay w 25 #[.slice a n cap, .int .i64 (j : Nat), .int .i64 p] (.tuple #[.agg #[.int .i64 (ratN (p * (bI f n j).pu) 1000000), .int .i64 (ratD (p * (bI f n j).pu) 1000000)], .int .i64 0]) := fun W hW => by
  have hw : WindOk p 0 := ⟨⟨h0, h1⟩, by constructor <;> omega⟩
  have hA : ASay W (.slice a n cap) (j : Nat) p 0 (wiV (bI f n j) 0 p 0) (wiE 0 p 0) := fun V hV => bedInWind_any a n cap _ p 0 _ V ((bsay_in h hG hj).on2 (hW.trans (hV.mono hW.size)))
  rw [show wiV (bI f n j) 0 p 0 = bI f n j from if_neg (fun h => h.2 hw), show wiE 0 p 0 = 0 from if_neg (fun h => h.2 hw)] at hA
  exact moment_ok a n cap _ p _ W hA (inB_bI hG hj) h0 h1
end Go.Proofs.YtplhbklfaokjbaaDoor
