/- The reference's states of a rule, minute by minute. -/
import Derived.Test.YtmhjahljilaijaaDoorTxWdv
import Derived.Laws.MakeOwn
import Derived.Laws.OwnMore
import Derived.Lib.SmallJoins
import Derived.OwnWalk
namespace Go.Proofs.YtmhjahljilaijaaDoor.Tx
open Go.Proofs.YtmhjahljilaijaaDoor
open Go.RowKit
attribute [local go_sem] After.cell After.frozen After.lt After.le After.ne After.ne' After.set_eq After.size_set After.lt_add

theorem ownsR_stay {W W' : World} {B : Nat} {T : TypeId} {c n : Nat} {v : Value} {xs : List Value} (h : W.ownsRow B T c v n xs) (hb : Below W.heap.size W W') : W'.ownsRow B T c v n xs := by
  obtain ⟨q1, q2 | ⟨g', cap', cur, a1, a2, a3, a4⟩⟩ := h
  · exact ⟨q1, .inl q2⟩
  · exact ⟨q1, .inr ⟨g', cap', cur, a1, a2, (hb.block g' (Array.getElem?_eq_some_iff.1 a3).1).trans a3, a4⟩⟩
theorem ownsR_shape {W : World} {B : Nat} {T : TypeId} {c n : Nat} {v : Value} {xs : List Value} (h : W.ownsRow B T c v n xs) : ∃ a cap, v = .slice a n cap := by
  rcases Nat.eq_zero_or_pos n with rfl | h0
  · rcases Go.Joins.ownsRow_forms h with ⟨rfl, _⟩ | ⟨g, c, rfl⟩
    · exact ⟨_, _, rfl⟩
    · exact ⟨_, _, rfl⟩
  · obtain ⟨g, cap, rfl⟩ := Go.Joins.ownsRow_form h h0
    exact ⟨_, _, rfl⟩

def nxS (s g c st x : Int) : Int := if st < 0 then (if x < 0 ∨ s ≤ x then 0 else -1) else (if x < 0 ∨ g ≤ x then 0 else if st + 1 = c then -1 else st + 1)
def gxS (s st x : Int) : Bool := decide (st < 0) && !decide (x < 0 ∨ s ≤ x)
theorem nxS_st {s g c w x : Int} (hc : 1 ≤ c) (hw : 0 ≤ w ∧ w ≤ c) (hx : -1 ≤ x) : nxS s g c (stW c w) x = stW c (nxW s g c w x) := (stW_next hc hw hx).symm
theorem gxS_gW {s g c : Int} {f : Nat → Int} {k : Nat} (hc : 1 ≤ c) (hx : -1 ≤ f k) : gxS s (stW c (wt s g c f k)) (f k) = gW s g c f k := (gW_state hc hx).symm
theorem stW_bd {c w : Int} (hc : 1 ≤ c) (hw : 0 ≤ w ∧ w ≤ c) : -1 ≤ stW c w ∧ stW c w ≤ c - 1 := by unfold stW; split <;> omega

/-- The first k of n marks. -/
def bxs (p : Nat → Bool) (n k : Nat) : List Value := (List.range n).map fun i => .bool (decide (i < k) && p i)
theorem bxs_len (p : Nat → Bool) (n k : Nat) : (bxs p n k).length = n := by simp [bxs]
theorem bxs_get {p : Nat → Bool} {n k i : Nat} (h : i < n) : (bxs p n k)[i]? = some (.bool (decide (i < k) && p i)) := by
  unfold bxs
  rw [List.getElem?_map, List.getElem?_range h]; rfl
theorem bxs_set {p : Nat → Bool} {n k : Nat} (h : k < n) : (bxs p n k).set k (.bool (p k)) = bxs p n (k + 1) := by
  apply List.ext_getElem?
  intro i
  rw [List.getElem?_set]
  by_cases hi : i < n
  · rw [bxs_get hi, bxs_get hi]
    by_cases e : k = i
    · subst e
      rw [if_pos rfl, if_pos (by rw [bxs_len]; exact h)]
      simp
    · rw [if_neg e]
      congr 3
      exact decide_eq_decide.2 (by omega)
  · rw [List.getElem?_eq_none (by rw [bxs_len]; omega : (bxs p n k).length ≤ i), List.getElem?_eq_none (by rw [bxs_len]; omega), if_neg (by omega)]
theorem bxs_full (p : Nat → Bool) (n : Nat) {i : Nat} (h : i < n) : (bxs p n n)[i]? = some (.bool (p i)) := by
  rw [bxs_get h, decide_eq_true h, Bool.true_and]
theorem boolInfo : (Tryd.prog.info? 4).map (fun i => (i.zero, i.size, i.bytes)) = some (some (.bool false), 1, 1) := by kernel_rfl
theorem made_bools (p : Nat → Bool) (n : Nat) : (madeCells #[.bool false] (n * 1)).toList = bxs p n 0 := by
  apply List.ext_getElem?
  intro i
  unfold madeCells bxs
  simp only [Array.toList_map, Array.toList_range, List.getElem?_map]
  by_cases h : i < n
  · rw [List.getElem?_range (by omega), List.getElem?_range h]
    simp [Nat.mod_one]
  · rw [List.getElem?_eq_none (by simp; omega), List.getElem?_eq_none (by simp; omega)]
    rfl

end Go.Proofs.YtmhjahljilaijaaDoor.Tx
