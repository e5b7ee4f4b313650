/- P7.2 as mathematics; Borne in both. -/
import Derived.Test.YteojmhfocdlnoaaDoorTrGbo
import Derived.Test.YteojmhfocdlnoaaDoorTrGsr
import Derived.Test.YteojmhfocdlnoaaDoorTrGvs
namespace Go.Proofs.YteojmhfocdlnoaaDoor.Tr
open Go.Proofs.YteojmhfocdlnoaaDoor
open Go.RowKit
attribute [local go_sem] After.cell After.frozen After.lt After.le After.ne After.ne' After.set_eq After.size_set After.lt_add tx_size tx_toList

theorem unL_fuel (lf : Nat → Int) (m : Nat) : ∀ (d i : Nat), m - i ≤ d → unL lf m d i = unL lf m (d + 1) i
  | 0, i, h => by
    have e : unL lf m 1 i = unP lf m 0 i m := rfl
    show [] = unL lf m 1 i
    rw [e, unP_start lf m 0 i m (by omega)]
  | d + 1, i, h => by
    have key : ∀ k, k ≤ m → unP lf m d i k = unP lf m (d + 1) i k := by
      intro k
      induction k with
      | zero => intro _; rfl
      | succ k ih =>
        intro hk
        rw [unP_succ, unP_succ, ih (by omega)]
        congr 1
        unfold unF
        by_cases hc : i < k ∧ lf k = (i : Int)
        · rw [if_pos hc, if_pos hc, unL_fuel lf m d k (by omega)]
        · rw [if_neg hc, if_neg hc]
    exact key m (Nat.le_refl m)
theorem unP_sum (lf : Nat → Int) (m d i : Nat) (ow : Nat → Int) : ∀ k, ((unP lf m d i k).map ow).sum = sumN (fun x => ((unF lf (unL lf m d) i x).map ow).sum) k
  | 0 => rfl
  | k + 1 => by
    rw [unP_succ, List.map_append, List.sum_append, unP_sum lf m d i ow k]
    rfl
section
variable {lf : Nat → Int} {m : Nat} (hv : ∀ k, k < m → lf k < k ∧ -1 ≤ lf k)
include hv
/-- A link from which others hang bears what those bear. -/
theorem bo_child {lo : Nat → Int} {n i : Nat} (hn : n ≤ (thN (enB m lf) m).length) (hi : i < m) (hc : ∃ k, k < m ∧ lf k = (i : Int)) :
    boN lf m (owN lo (thN (enB m lf) m) n) i = sumN (fun k => if lf k = (i : Int) then boN lf m (owN lo (thN (enB m lf) m) n) k else 0) m := by
  obtain ⟨c, hc1, hc2⟩ := hc
  have h0 : owN lo (thN (enB m lf) m) n i = 0 := owN_new n hn (fun j hj e => by
    have hmem : i ∈ thN (enB m lf) m := by
      rw [← e, List.getD_eq_getElem?_getD, List.getElem?_eq_getElem (by omega)]
      exact List.getElem_mem _
    unfold thN at hmem
    have := (List.mem_filter.1 hmem).2
    rw [enB_false hc1 hc2] at this
    cases this)
  generalize owN lo (thN (enB m lf) m) n = ow at *
  obtain ⟨d, rfl⟩ : ∃ d, m = d + 1 := ⟨m - 1, by omega⟩
  have e1 : boN lf (d + 1) ow i = ((unP lf (d + 1) d i (d + 1)).map ow).sum := by
    unfold boN
    rw [h0]
    show 0 + ((unP lf (d + 1) d i (d + 1)).map ow).sum = _
    omega
  rw [e1, unP_sum]
  refine sumN_congr _ (fun k hk => ?_)
  have hvk := hv k hk
  unfold unF
  by_cases he : lf k = (i : Int)
  · rw [if_pos he, if_pos ⟨by omega, he⟩, List.map_cons, List.sum_cons, unL_fuel lf (d + 1) d k (by omega)]
    rfl
  · rw [if_neg he, if_neg (fun q => he q.2)]
    rfl
/-- The topmost link is above all. -/
theorem up_zero (hr : ∀ k, k < m → 0 < k → 0 ≤ lf k) : ∀ (n : Nat) (x : Nat), x < n → x < m → 0 ∈ upO lf m (x : Nat)
  | 0, x, h, _ => by omega
  | n + 1, x, h, hx => by
    rw [upO_step hv hx]
    by_cases h0 : x = 0
    · subst h0; simp
    · have h1 := hr x hx (by omega)
      have h2 := hv x hx
      obtain ⟨y, hy⟩ : ∃ y : Nat, lf x = (y : Int) := ⟨(lf x).toNat, by omega⟩
      rw [hy]
      exact List.mem_cons_of_mem _ (up_zero hr n y (by omega) (by omega))
theorem rb_zero (hr : ∀ k, k < m → 0 < k → 0 ≤ lf k) {lo : Nat → Int} {E : List Nat} (hE : ∀ e ∈ E, e < m) : ∀ k, k ≤ E.length → rbN lf m lo E k 0 = sumN lo k
  | 0, _ => rfl
  | k + 1, hk => by
    have he : E.getD k 0 < m := hE _ (by rw [List.getD_eq_getElem?_getD, List.getElem?_eq_getElem (by omega)]; exact List.getElem_mem _)
    unfold rbN sumN
    rw [rb_zero hr hE k (by omega)]
    show sumN lo k + (if 0 ∈ upO lf m (E.getD k 0 : Nat) then lo k else 0) = _
    rw [if_pos (up_zero hv hr m _ he he)]
end
theorem vr_pos {n m : Nat} {gm lm : Nat → List UInt8} {lf : Nat → Int} (h : vrB n m gm lm lf = true) : ∀ k, k < m → 0 < k → 0 ≤ lf k := fun k hk h0 => by
  have h1 := ((vrB_of h).2 k hk).2.1
  unfold mhB at h1
  rw [if_neg (by omega)] at h1
  simp at h1
  exact h1.1
/-- The error of Borne. -/
noncomputable def boE (b : Bool) (n : Nat) (lo : Nat → Int) (K : Nat) : Int := if b then brE n lo K else 1
/-- What Borne answers. -/
def BoA (b : Bool) (m n : Nat) (lf lo : Nat → Int) (c : Int) (W : World) (e : Ending) : Prop :=
  (c ≠ 0 ∧ e = .returned (.tuple #[.slice none 0 0, .int .i64 c])) ∨ (c = 0 ∧ b = true ∧ n = (thN (enB m lf) m).length ∧ LdOk n lo ∧ ∃ a' c', e = .returned (.tuple #[.slice a' m c', .int .i64 0]) ∧ GAt W a' m (boN lf m (owN lo (thN (enB m lf) m) n)))
section
variable (a : Option Addr) (n cap : Nat) (gm : Nat → List UInt8) (gl gd : Nat → Int) (gb : Nat → List UInt8) (al : Option Addr) (m capl : Nat) (lm : Nat → List UInt8) (lf : Nat → Int) (aq : Option Addr) (nq cq : Nat) (lo : Nat → Int) (w : World) (hA : ItAt w a n gm gl gd gb) (hL : LkAt w al m lm lf) (hQ : GAt w aq nq lo) (hn : n ≤ 1000) (hm : m ≤ 1000) (hcap : m ≤ capl) (h1 : Sht n gm) (h2 : Sht n gb) (h3 : Sht m lm) (hnq : nq ≤ 1000)
include hA hL hQ hn hm hcap h1 h2 h3 hnq
end
end Go.Proofs.YteojmhfocdlnoaaDoor.Tr
