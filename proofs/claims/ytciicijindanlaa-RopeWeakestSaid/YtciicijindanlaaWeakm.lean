/- Weakest: plain mathematics, slices of ropes and of lists of uses. -/
import Derived.Test.YtciicijindanlaaWrong
namespace Go.Proofs.Ytciicijindanlaa
open Go.RowKit

/-- A slice of ropes in memory. -/
def Rps (W : World) (B : Nat) (v : Value) (n : Nat) (R : Nat → Int × Int × Int) : Prop :=
  ∃ a cap, v = .slice a n cap ∧ n ≤ 9223372036854775807 ∧ (0 < n → ∃ b off, a = some ⟨b, off, none⟩ ∧ b < B ∧ ∀ i, i < n → W.cell? ⟨b, off + i * 3, none⟩ = some (.int .i64 (R i).1) ∧ W.cell? ⟨b, off + i * 3 + 1, none⟩ = some (.int .i64 (R i).2.1) ∧ W.cell? ⟨b, off + i * 3 + 2, none⟩ = some (.int .i64 (R i).2.2))
/-- A slice of lists of uses in memory. -/
def Uss (W : World) (B : Nat) (v : Value) (n : Nat) (U : Nat → List (Int × Int)) : Prop :=
  ∃ a cap, v = .slice a n cap ∧ n ≤ 9223372036854775807 ∧ (0 < n → ∃ b off, a = some ⟨b, off, none⟩ ∧ b < B ∧ ∀ i, i < n → ∃ u, W.cell? ⟨b, off + i, none⟩ = some u ∧ Prc W W.heap.size u (U i))
theorem rps_on {v : Value} {n : Nat} {R : Nat → Int × Int × Int} {w W : World} (h : Rps w w.heap.size v n R) (hW : Below w.heap.size w W) : Rps W W.heap.size v n R := by
  obtain ⟨a, cap, rfl, hn, h⟩ := h
  refine ⟨a, cap, rfl, hn, fun h0 => ?_⟩
  obtain ⟨b, off, rfl, hb, hc⟩ := h h0
  exact ⟨b, off, rfl, Nat.lt_of_lt_of_le hb hW.size, fun i hi => ⟨(hW.cell (p := ⟨b, _, none⟩) hb).trans (hc i hi).1, (hW.cell (p := ⟨b, _, none⟩) hb).trans (hc i hi).2.1, (hW.cell (p := ⟨b, _, none⟩) hb).trans (hc i hi).2.2⟩⟩
theorem uss_on {v : Value} {n : Nat} {U : Nat → List (Int × Int)} {w W : World} (h : Uss w w.heap.size v n U) (hW : Below w.heap.size w W) : Uss W W.heap.size v n U := by
  obtain ⟨a, cap, rfl, hn, h⟩ := h
  refine ⟨a, cap, rfl, hn, fun h0 => ?_⟩
  obtain ⟨b, off, rfl, hb, hc⟩ := h h0
  refine ⟨b, off, rfl, Nat.lt_of_lt_of_le hb hW.size, fun i hi => ?_⟩
  obtain ⟨u, h1, h2⟩ := hc i hi
  exact ⟨u, (hW.cell (p := ⟨b, _, none⟩) hb).trans h1, prc_on h2 hW⟩

/-- The rope i with its uses is valid. -/
def rG (R : Nat → Int × Int × Int) (U : Nat → List (Int × Int)) (i : Nat) : Prop := GoodW (R i).1 (R i).2.1 (R i).2.2 (U i)
instance (R : Nat → Int × Int × Int) (U : Nat → List (Int × Int)) (i : Nat) : Decidable (rG R U i) := by unfold rG; infer_instance
def wS (R : Nat → Int × Int × Int) (U : Nat → List (Int × Int)) (day : Int) (i : Nat) : Int := if (R i).2.2 ≤ lft (R i).1 (R i).2.1 day (U i) then sfV (R i).1 (lft (R i).1 (R i).2.1 day (U i)) else 0
/-- The first of the least among the first k. -/
def wkI (S : Nat → Int) : Nat → Nat
  | 0 => 0
  | k + 1 => if k = 0 ∨ S k < S (wkI S k) then k else wkI S k
def wkE (n m : Nat) (R : Nat → Int × Int × Int) (U : Nat → List (Int × Int)) (day : Int) : Int :=
  if Btw n 1 20 ∧ m = n then if ∀ i, i < n → rG R U i then if Dy day then 0 else 7 else 1 else 9
def wkV (n m : Nat) (R : Nat → Int × Int × Int) (U : Nat → List (Int × Int)) (day : Int) : Int := if wkE n m R U day = 0 then wkI (wS R U day) n else 0
theorem wk_size {n m : Nat} {R : Nat → Int × Int × Int} {U : Nat → List (Int × Int)} {day : Int} (h : ¬ (Btw n 1 20 ∧ m = n)) : wkE n m R U day = 9 ∧ wkV n m R U day = 0 := by
  have e : wkE n m R U day = 9 := by unfold wkE; rw [if_neg h]
  exact ⟨e, by unfold wkV; rw [e]; rfl⟩
theorem wk_bad {n k : Nat} {R : Nat → Int × Int × Int} {U : Nat → List (Int × Int)} {day : Int} (h : Btw n 1 20) (hk : k < n) (hG : ¬ rG R U k) : wkE n n R U day = 1 ∧ wkV n n R U day = 0 := by
  have e : wkE n n R U day = 1 := by unfold wkE; rw [if_pos ⟨h, rfl⟩, if_neg (fun h => hG (h k hk))]
  exact ⟨e, by unfold wkV; rw [e]; rfl⟩
theorem wk_day {n : Nat} {R : Nat → Int × Int × Int} {U : Nat → List (Int × Int)} {day : Int} (h : Btw n 1 20) (hG : ∀ i, i < n → rG R U i) (hD : ¬ Dy day) : wkE n n R U day = 7 ∧ wkV n n R U day = 0 := by
  have e : wkE n n R U day = 7 := by unfold wkE; rw [if_pos ⟨h, rfl⟩, if_pos hG, if_neg hD]
  exact ⟨e, by unfold wkV; rw [e]; rfl⟩
theorem wk_ok {n : Nat} {R : Nat → Int × Int × Int} {U : Nat → List (Int × Int)} {day : Int} (h : Btw n 1 20) (hG : ∀ i, i < n → rG R U i) (hD : Dy day) : wkE n n R U day = 0 ∧ wkV n n R U day = wkI (wS R U day) n := by
  have e : wkE n n R U day = 0 := by unfold wkE; rw [if_pos ⟨h, rfl⟩, if_pos hG, if_pos hD]
  exact ⟨e, by unfold wkV; rw [e]; rfl⟩
theorem wkI_lt (S : Nat → Int) : ∀ n, 0 < n → wkI S n < n
  | k + 1, _ => by
    unfold wkI
    split
    · omega
    · rcases Nat.eq_zero_or_pos k with h | h
      · subst h; rename_i h; exact absurd (Or.inl rfl) h
      · have := wkI_lt S k h; omega
theorem wS_bd {R : Nat → Int × Int × Int} {U : Nat → List (Int × Int)} {day : Int} {i : Nat} (h : rG R U i) (hD : Dy day) : 0 ≤ wS R U day i ∧ wS R U day i ≤ 200000 := by
  obtain ⟨x1, x2⟩ := lft_bd (s := (R i).1) h.1.1.1 h.2 h.1.2.1 hD
  obtain ⟨y1, y2⟩ := sl_bd h.1.1 x1 x2
  unfold wS
  split
  · unfold sfV; omega
  · omega
end Go.Proofs.Ytciicijindanlaa
