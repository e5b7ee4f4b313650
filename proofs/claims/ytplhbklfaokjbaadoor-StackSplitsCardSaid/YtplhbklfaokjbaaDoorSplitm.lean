/- A stack with a course divided: plain mathematics; lists of courses put together. -/
import Derived.Test.YtplhbklfaokjbaaDoorTurnm
namespace Go.Proofs.YtplhbklfaokjbaaDoor
open Go.RowKit

def loW (f : Nat → Nat → Int) (k : Nat) (t : Int) : Int := f k 3 * t / f k 0
def loC (f : Nat → Nat → Int) (k : Nat) (t : Int) : Nat → Int := fun j => if j = 0 then t else if j = 3 then loW f k t else f k j
def upD (f : Nat → Nat → Int) (k : Nat) (t : Int) : Nat → Int := fun j => if j = 0 then f k 0 - t else if j = 3 then f k 3 - loW f k t else f k j
/-- The two parts. -/
def twoC (f : Nat → Nat → Int) (k : Nat) (t : Int) : Nat → Nat → Int := fun i => if i = 0 then loC f k t else upD f k t
def spC (f : Nat → Nat → Int) (k : Nat) (t : Int) : Nat → Nat → Int := fun i => if i < k then f i else if i = k then loC f k t else if i = k + 1 then upD f k t else f (i - 1)
theorem loW_bd {f : Nat → Nat → Int} {k : Nat} {t : Int} (h : OkC f k) (h1 : 1 ≤ t) (h2 : t ≤ f k 0 - 1) : 0 ≤ loW f k t ∧ loW f k t + 1 ≤ f k 3 ∧ 0 ≤ f k 3 * t ∧ f k 3 * t ≤ 2000000000 := by
  unfold OkC InCr at h
  have m0 : 0 ≤ f k 3 * t := Int.mul_nonneg (by omega) (by omega)
  obtain ⟨-, m1⟩ := prod_bd (a := f k 3) (b := t) (A := 1000000) (B := 2000) (by omega) (by omega) (by omega) (by omega)
  have m2 : f k 3 * t ≤ f k 3 * (f k 0 - 1) := Int.mul_le_mul_of_nonneg_left h2 (by omega)
  have m3 : f k 3 * (f k 0 - 1) = f k 3 * f k 0 - f k 3 := by rw [Int.mul_sub, Int.mul_one]
  refine ⟨Int.ediv_nonneg m0 (by omega), ?_, m0, by omega⟩
  have : f k 3 * t / f k 0 < f k 3 := Int.ediv_lt_of_lt_mul (by omega) (by omega)
  unfold loW
  omega
theorem sp_good {n : Nat} {f : Nat → Nat → Int} {k : Nat} {t : Int} (hG : GoodC n f) (hk : k < n) (hn : n < 60) (h1 : 1 ≤ t) (h2 : t ≤ f k 0 - 1) (h0 : loW f k t ≠ 0) : GoodC (n + 1) (spC f k t) := by
  refine ⟨by omega, by omega, fun i hi => ?_⟩
  have hO := hG.2.2 k hk
  obtain ⟨b1, b2, -⟩ := loW_bd hO h1 h2
  by_cases e1 : i < k
  · have := hG.2.2 i (by omega)
    unfold OkC at *
    unfold spC
    rwa [if_pos e1]
  · by_cases e2 : i = k
    · subst e2
      unfold OkC InCr at *
      unfold spC
      rw [if_neg e1, if_pos rfl]
      simp only [loC]
      simp
      omega
    · by_cases e3 : i = k + 1
      · subst e3
        unfold OkC InCr at *
        unfold spC
        rw [if_neg e1, if_neg e2, if_pos rfl]
        simp only [upD]
        simp
        omega
      · have := hG.2.2 (i - 1) (by omega)
        unfold OkC at *
        unfold spC
        rwa [if_neg e1, if_neg e2, if_neg e3]
theorem sp_list {n : Nat} {f : Nat → Nat → Int} {k : Nat} (t : Int) (hk : k < n) : crc k f ++ crc 2 (twoC f k t) ++ crc (n - k - 1) (fun i => f (k + 1 + i)) = crc (n + 1) (spC f k t) := by
  rw [crc_app, crc_app, show k + 2 + (n - k - 1) = n + 1 by omega]
  refine crc_congr fun i j hi _ => ?_
  unfold crA spC twoC
  by_cases e1 : i < k
  · rw [if_pos (by omega), if_pos e1, if_pos e1]
  · by_cases e2 : i = k
    · subst e2
      rw [if_pos (by omega), if_neg e1, if_neg e1, if_pos (by omega), if_pos rfl]
    · by_cases e3 : i = k + 1
      · subst e3
        rw [if_pos (by omega), if_neg e1, if_neg e1, if_neg (by omega), if_neg e2, if_pos rfl]
      · rw [if_neg (by omega), if_neg e1, if_neg e2, if_neg e3]
        show f (k + 1 + (i - (k + 2))) j = f (i - 1) j
        rw [show k + 1 + (i - (k + 2)) = i - 1 by omega]
theorem concat3 (b0 o0 p0 m0 b1 o1 p1 m1 b2 o2 p2 m2 : Nat) (F0 F1 F2 : Nat → Nat → Int) (xb : Nat) (w : World) (hx : xb < w.heap.size)
    (c0 : w.cell? ⟨xb, 0, none⟩ = some (.slice (some ⟨b0, o0, none⟩) m0 p0)) (c1 : w.cell? ⟨xb, 1, none⟩ = some (.slice (some ⟨b1, o1, none⟩) m1 p1)) (c2 : w.cell? ⟨xb, 2, none⟩ = some (.slice (some ⟨b2, o2, none⟩) m2 p2))
    (v0 : b0 < w.heap.size ∧ CrCells w b0 o0 m0 F0) (v1 : b1 < w.heap.size ∧ CrCells w b1 o1 m1 F1) (v2 : b2 < w.heap.size ∧ CrCells w b2 o2 m2 F2) (h1 : 0 < m1) (hm : m0 + m1 + m2 ≤ 1000) :
    Calls Tryd.prog 78 #[.slice (some ⟨xb, 0, none⟩) 3 3] w fun e w' => ∃ v, e = .returned v ∧ w'.ownsRow w.heap.size 51 6 v (m0 + m1 + m2) (crc m0 F0 ++ crc m1 F1 ++ crc m2 F2) ∧ Below w.heap.size w w' := by
  have h := concatC_any 3 (fun k => if k = 0 then b0 else if k = 1 then b1 else b2) (fun k => if k = 0 then o0 else if k = 1 then o1 else o2) (fun k => if k = 0 then p0 else if k = 1 then p1 else p2) (fun k => if k = 0 then m0 else if k = 1 then m1 else m2) (fun k => if k = 0 then F0 else if k = 1 then F1 else F2)
    (fun k => if k = 0 then 0 else if k = 1 then m0 else if k = 2 then m0 + m1 else m0 + m1 + m2) (fun k => if k = 0 then [] else if k = 1 then crc m0 F0 else if k = 2 then crc m0 F0 ++ crc m1 F1 else crc m0 F0 ++ crc m1 F1 ++ crc m2 F2) xb w hx (by omega)
    (fun k hk => by
      rcases (show k = 0 ∨ k = 1 ∨ k = 2 by omega) with rfl | rfl | rfl
      · exact c0
      · exact c1
      · exact c2)
    (fun k hk => by
      rcases (show k = 0 ∨ k = 1 ∨ k = 2 by omega) with rfl | rfl | rfl
      · exact v0
      · exact v1
      · exact v2)
    ⟨rfl, rfl⟩
    (fun k hk => by
      rcases (show k = 0 ∨ k = 1 ∨ k = 2 by omega) with rfl | rfl | rfl
      · exact ⟨(Nat.zero_add _).symm, rfl⟩
      · exact ⟨rfl, rfl⟩
      · exact ⟨rfl, rfl⟩)
    (fun k hk => by
      rcases (show k = 0 ∨ k = 1 ∨ k = 2 ∨ k = 3 by omega) with rfl | rfl | rfl | rfl
      · exact Nat.zero_le _
      · show m0 ≤ 1000; omega
      · show m0 + m1 ≤ 1000; omega
      · show m0 + m1 + m2 ≤ 1000; omega)
    (show 0 < m0 + m1 + m2 by omega)
  exact h
theorem concat2 (b0 o0 p0 m0 b1 o1 p1 m1 : Nat) (F0 F1 : Nat → Nat → Int) (xb : Nat) (w : World) (hx : xb < w.heap.size)
    (c0 : w.cell? ⟨xb, 0, none⟩ = some (.slice (some ⟨b0, o0, none⟩) m0 p0)) (c1 : w.cell? ⟨xb, 1, none⟩ = some (.slice (some ⟨b1, o1, none⟩) m1 p1))
    (v0 : b0 < w.heap.size ∧ CrCells w b0 o0 m0 F0) (v1 : b1 < w.heap.size ∧ CrCells w b1 o1 m1 F1) (h1 : 0 < m1) (hm : m0 + m1 ≤ 1000) :
    Calls Tryd.prog 78 #[.slice (some ⟨xb, 0, none⟩) 2 2] w fun e w' => ∃ v, e = .returned v ∧ w'.ownsRow w.heap.size 51 6 v (m0 + m1) (crc m0 F0 ++ crc m1 F1) ∧ Below w.heap.size w w' := by
  have h := concatC_any 2 (fun k => if k = 0 then b0 else b1) (fun k => if k = 0 then o0 else o1) (fun k => if k = 0 then p0 else p1) (fun k => if k = 0 then m0 else m1) (fun k => if k = 0 then F0 else F1)
    (fun k => if k = 0 then 0 else if k = 1 then m0 else m0 + m1) (fun k => if k = 0 then [] else if k = 1 then crc m0 F0 else crc m0 F0 ++ crc m1 F1) xb w hx (by omega)
    (fun k hk => by
      rcases (show k = 0 ∨ k = 1 by omega) with rfl | rfl
      · exact c0
      · exact c1)
    (fun k hk => by
      rcases (show k = 0 ∨ k = 1 by omega) with rfl | rfl
      · exact v0
      · exact v1)
    ⟨rfl, rfl⟩
    (fun k hk => by
      rcases (show k = 0 ∨ k = 1 by omega) with rfl | rfl
      · exact ⟨(Nat.zero_add _).symm, rfl⟩
      · exact ⟨rfl, rfl⟩)
    (fun k hk => by
      rcases (show k = 0 ∨ k = 1 ∨ k = 2 by omega) with rfl | rfl | rfl
      · exact Nat.zero_le _
      · show m0 ≤ 1000; omega
      · show m0 + m1 ≤ 1000; omega)
    (show 0 < m0 + m1 by omega)
  exact h
end Go.Proofs.YtplhbklfaokjbaaDoor
