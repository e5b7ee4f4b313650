/- Joined in both programs. -/
import Derived.Test.YtlnlgboeohfpdaaTwWdp
import Derived.Deep.AppendLies
import Derived.OwnWalk
namespace Go.Proofs.Ytlnlgboeohfpdaa.Tw
open Go.Proofs.Ytlnlgboeohfpdaa
open Go.RowKit

/-- A row of numbers. -/
def rxs (h : Nat → Int) (k : Nat) : List Value := (List.range k).map fun i => .int .i64 (h i)
theorem rxs_succ (h : Nat → Int) (k : Nat) : rxs h (k + 1) = rxs h k ++ [.int .i64 (h k)] := by unfold rxs; rw [List.range_succ, List.map_append]; rfl
theorem rxs_len (h : Nat → Int) (k : Nat) : (rxs h k).length = k := by simp [rxs]
theorem rxs_get {h : Nat → Int} {k i : Nat} (hi : i < k) : (rxs h k)[i]? = some (.int .i64 (h i)) := by
  unfold rxs
  rw [List.getElem?_map, List.getElem?_range hi]; rfl
/-- A row whose first numbers are set. -/
def ixs (h : Nat → Int) (n k : Nat) : List Value := rxs (fun i => if i < k then h i else 0) n
theorem ixs_get {h : Nat → Int} {n k i : Nat} (hi : i < n) : (ixs h n k)[i]? = some (.int .i64 (if i < k then h i else 0)) := rxs_get hi
theorem ixs_set {h : Nat → Int} {n k : Nat} (hk : k < n) : (ixs h n k).set k (.int .i64 (h k)) = ixs h n (k + 1) := by
  apply List.ext_getElem?
  intro i
  rw [List.getElem?_set]
  by_cases hi : i < n
  · rw [ixs_get hi, ixs_get hi]
    by_cases e : k = i
    · subst e
      rw [if_pos rfl, if_pos (by unfold ixs; rw [rxs_len]; exact hk), if_pos (by omega)]
    · rw [if_neg e]
      by_cases h1 : i < k
      · rw [if_pos h1, if_pos (by omega)]
      · rw [if_neg h1, if_neg (by omega)]
  · rw [List.getElem?_eq_none (by unfold ixs; rw [rxs_len]; omega : (ixs h n k).length ≤ i), List.getElem?_eq_none (by unfold ixs; rw [rxs_len]; omega), if_neg (by omega)]
theorem ixs_full (h : Nat → Int) (n : Nat) : ixs h n n = rxs h n := by
  unfold ixs rxs
  refine List.map_congr_left fun i hi => ?_
  simp only [if_pos (List.mem_range.1 hi)]
theorem made_ints (h : Nat → Int) (n : Nat) : (madeCells #[.int .i64 0] (n * 1)).toList = ixs h n 0 := by
  apply List.ext_getElem?
  intro i
  unfold madeCells ixs rxs
  simp only [Array.toList_map, Array.toList_range, List.getElem?_map]
  by_cases hi : i < n
  · rw [List.getElem?_range (by omega), List.getElem?_range hi]
    simp [Nat.mod_one]
  · rw [List.getElem?_eq_none (by simp; omega), List.getElem?_eq_none (by simp; omega)]
    rfl
theorem intInfow : (Try.prog.info? 3).map (fun i => (i.zero, i.size, i.bytes)) = some (some (.int .i64 0), 1, 8) := by kernel_rfl
/-- A slice of numbers of the call's own. -/
def IRow (W : World) (B : Nat) (v : Value) (n : Nat) (h : Nat → Int) : Prop := W.ownsRow B 3 1 v n (rxs h n)
/-- The greater one of two gusts; what Joined answers. -/
def jnF (f g : Nat → Int) (k : Nat) : Int := if f k < g k then g k else f k
def jnE (n : Nat) (f : Nat → Int) (m : Nat) (g : Nat → Int) : Int := if decide (GoodG n f) && decide (GoodG m g) then (if n = m then 0 else 9) else 1
def jnL (n : Nat) (f : Nat → Int) (m : Nat) (g : Nat → Int) : Nat := if jnE n f m g = 0 then n else 0
section
attribute [local go_sem] After.cell After.frozen After.lt After.le After.ne After.ne' After.set_eq After.size_set After.lt_add
end
end Go.Proofs.Ytlnlgboeohfpdaa.Tw
