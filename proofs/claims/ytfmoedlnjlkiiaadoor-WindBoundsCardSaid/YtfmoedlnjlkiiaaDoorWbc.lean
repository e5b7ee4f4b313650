/- Bounds in the program: the counts after a minute. -/
import Derived.Test.YtfmoedlnjlkiiaaDoorWbt
import Derived.Deep.WholeRow
import Derived.Lib.SmallJoins
namespace Go.Proofs.YtfmoedlnjlkiiaaDoor
open Go.RowKit
attribute [local go_sem] After.cell After.frozen After.lt After.le After.ne After.ne' After.set_eq After.size_set After.lt_add

/-- All tallies, cell by cell. -/
def cvAt (T : Nat → Ty) (i : Nat) : Value := if i % 3 = 0 then .bool (tyc (T (i / 3))) else if i % 3 = 1 then .int .i64 (ty1 (T (i / 3))) else .int .i64 (ty2 (T (i / 3)))
def cvA (T : Nat → Ty) : Array Value := (Array.range 723).map (cvAt T)
theorem cvA_size (T : Nat → Ty) : (cvA T).size = 723 := by simp [cvA]
theorem cvA_get {T : Nat → Ty} {i : Nat} (h : i < 723) : (cvA T)[i]? = some (cvAt T i) := by
  unfold cvA
  rw [Array.getElem?_map, Array.getElem?_range, if_pos h]
  rfl
theorem cvA_none {T : Nat → Ty} {i : Nat} (h : ¬ i < 723) : (cvA T)[i]? = none := Array.getElem?_eq_none (by rw [cvA_size]; omega)
theorem cvAt0 (T : Nat → Ty) (j : Nat) : cvAt T (j * 3) = .bool (tyc (T j)) := by
  unfold cvAt
  rw [if_pos (by omega), show j * 3 / 3 = j by omega]
theorem cvAt1 (T : Nat → Ty) (j : Nat) : cvAt T (j * 3 + 1) = .int .i64 (ty1 (T j)) := by
  unfold cvAt
  rw [if_neg (by omega), if_pos (by omega), show (j * 3 + 1) / 3 = j by omega]
theorem cvAt2 (T : Nat → Ty) (j : Nat) : cvAt T (j * 3 + 2) = .int .i64 (ty2 (T j)) := by
  unfold cvAt
  rw [if_neg (by omega), if_neg (by omega), show (j * 3 + 2) / 3 = j by omega]
theorem cvA_set {T : Nat → Ty} {j : Nat} (hj : j < 241) (t : Ty) :
    (((cvA T).setIfInBounds (j * 3) (.bool (tyc t))).setIfInBounds (j * 3 + 1) (.int .i64 (ty1 t))).setIfInBounds (j * 3 + 2) (.int .i64 (ty2 t)) = cvA (setT T j t) := by
  apply Array.ext_getElem?
  intro i
  have hs : i < 723 → i / 3 = j → (i = j * 3 ∨ i = j * 3 + 1 ∨ i = j * 3 + 2) := by omega
  simp only [Array.getElem?_setIfInBounds, Array.size_setIfInBounds, cvA_size]
  by_cases hi : i < 723
  · rw [cvA_get hi, cvA_get hi]
    by_cases e2 : j * 3 + 2 = i
    · rw [if_pos e2, if_pos (by omega), ← e2, cvAt2]; simp [setT]
    · rw [if_neg e2]
      by_cases e1 : j * 3 + 1 = i
      · rw [if_pos e1, if_pos (by omega), ← e1, cvAt1]; simp [setT]
      · rw [if_neg e1]
        by_cases e0 : j * 3 = i
        · rw [if_pos e0, if_pos (by omega), ← e0, cvAt0]; simp [setT]
        · rw [if_neg e0]
          have hn : ¬ i / 3 = j := fun e => by rcases hs hi e with h | h | h <;> omega
          unfold cvAt setT
          simp only [if_neg hn]
  · rw [cvA_none hi, cvA_none hi]
    simp only [show ¬ j * 3 + 2 = i by omega, show ¬ j * 3 + 1 = i by omega, show ¬ j * 3 = i by omega, if_false]
def zz : Nat → List Value
  | 0 => []
  | n + 1 => .bool false :: .int .i64 0 :: .int .i64 0 :: zz n
theorem zz_len : ∀ n, (zz n).length = 3 * n
  | 0 => rfl
  | n + 1 => by show (zz n).length + 1 + 1 + 1 = _; rw [zz_len n]; omega
theorem zz_get : ∀ n i, i < 3 * n → (zz n)[i]? = some (cvAt (fun _ => none) i)
  | 0, i, h => absurd h (by omega)
  | n + 1, 0, _ => rfl
  | n + 1, 1, _ => rfl
  | n + 1, 2, _ => rfl
  | n + 1, i + 3, h => by
    show (zz n)[i]? = _
    rw [zz_get n i (by omega)]
    unfold cvAt
    rw [show (i + 3) % 3 = i % 3 by omega]
theorem zero_list : Tryd.zeroCells112 = (zz 241).toArray := by kernel_rfl
theorem zero_cvA : Tryd.zeroCells112 = cvA fun _ => none := by
  rw [zero_list]
  apply Array.ext_getElem?
  intro i
  rw [List.getElem?_toArray]
  by_cases hi : i < 723
  · rw [zz_get 241 i hi, cvA_get hi]
  · rw [cvA_none hi, List.getElem?_eq_none (by rw [zz_len]; omega)]
theorem counts_size : (Tryd.prog.info? 112).map (·.size) = some 723 := by kernel_rfl
theorem cvA_one (T : Nat → Ty) : (cvA T).all (·.oneCell') = true := by
  rw [Array.all_eq_true]
  intro i hi
  have h := cvA_get (T := T) (i := i) (by rw [cvA_size] at hi; exact hi)
  rw [Array.getElem?_eq_getElem hi] at h
  have := Option.some.inj h
  rw [this]
  unfold cvAt
  split
  · rfl
  · split <;> rfl
theorem cvA_index (T : Nat → Ty) (j : Nat) (hj : j < 241) (w : World) : (Instr.index 112 (.agg (cvA T)) (.int .i64 (j : Nat))).run Tryd.prog w = .ok (tyV (T j)) w := by
  have hj2 : (0 : Int) ≤ (j : Int) ∧ (j : Int) < ((241 : Nat) : Int) := by omega
  have he : (cvA T).extract (j * 3) (j * 3 + 3) = #[.bool (tyc (T j)), .int .i64 (ty1 (T j)), .int .i64 (ty2 (T j))] := by
    apply Array.ext_getElem?
    intro i
    rw [Array.getElem?_extract, cvA_size]
    by_cases hi : i < 3
    · rw [if_pos (by omega)]
      have h3 : i = 0 ∨ i = 1 ∨ i = 2 := by omega
      rcases h3 with rfl | rfl | rfl
      · rw [Nat.add_zero, cvA_get (by omega), cvAt0]; rfl
      · rw [cvA_get (by omega), cvAt1]; rfl
      · rw [cvA_get (by omega), cvAt2]; rfl
    · rw [if_neg (by omega)]
      exact (Array.getElem?_eq_none (by simp; omega)).symm
  simp [Instr.index, part, asIntOf, go_sem, hj2, he, tyV]
  exact fun h => absurd h (by omega)
end Go.Proofs.YtfmoedlnjlkiiaaDoor
