/- What links bear: the program's numbers are the reference's. -/
import Derived.Test.YteojmhfocdlnoaaDoorTrGbm
import Derived.Test.YteojmhfocdlnoaaDoorTrGwi
namespace Go.Proofs.YteojmhfocdlnoaaDoor.Tr
open Go.Proofs.YteojmhfocdlnoaaDoor
open Go.RowKit

/-- The loads at their ends, k of them. -/
def owN (lo : Nat → Int) (E : List Nat) : Nat → Nat → Int
  | 0 => fun _ => 0
  | k + 1 => updF (owN lo E k) (E.getD k 0) (lo k)
/-- What a link bears, by the loads at it and under it. -/
def boN (lf : Nat → Int) (m : Nat) (ow : Nat → Int) (i : Nat) : Int := ow i + ((unL lf m m i).map ow).sum
/-- What links bear with the loads of k ends, end by end. -/
def rbN (lf : Nat → Int) (m : Nat) (lo : Nat → Int) (E : List Nat) : Nat → Nat → Int
  | 0 => fun _ => 0
  | k + 1 => fun i => rbN lf m lo E k i + if i ∈ upO lf m (E.getD k 0 : Nat) then lo k else 0
theorem owN_new {lo : Nat → Int} {E : List Nat} {x : Nat} : ∀ k, k ≤ E.length → (∀ j, j < k → E.getD j 0 ≠ x) → owN lo E k x = 0
  | 0, _, _ => rfl
  | k + 1, hk, h => by
    unfold owN updF
    rw [if_neg (fun e => h k (by omega) e.symm)]
    exact owN_new k (by omega) (fun j hj => h j (by omega))
theorem owN_bd {lo : Nat → Int} {E : List Nat} (h : ∀ j, j < E.length → 0 ≤ lo j ∧ lo j ≤ 1000000) : ∀ k, k ≤ E.length → ∀ x, 0 ≤ owN lo E k x ∧ owN lo E k x ≤ 1000000
  | 0, _, x => by simp [owN]
  | k + 1, hk, x => by
    unfold owN updF
    by_cases e : x = E.getD k 0
    · rw [if_pos e]; exact h k (by omega)
    · rw [if_neg e]; exact owN_bd h k (by omega) x
theorem sumN_upd {P : Nat → Prop} [DecidablePred P] {g : Nat → Int} {e : Nat} {v : Int} {m : Nat} (he : e < m) (h0 : g e = 0) : sumN (fun x => if P x then updF g e v x else 0) m = sumN (fun x => if P x then g x else 0) m + if P e then v else 0 := by
  have e1 : sumN (fun x => if P x then updF g e v x else 0) m = sumN (fun x => (if P x then g x else 0) + (if x = e then (if P e then v else 0) else 0)) m := sumN_congr m (fun x _ => by
    unfold updF
    by_cases hx : x = e
    · subst hx
      by_cases hp : P x
      · simp [hp, h0]
      · simp [hp]
    · simp [hx])
  rw [e1, sumN_add, sumN_one, if_pos he]
theorem getD_ne {E : List Nat} (hn : E.Nodup) {j k : Nat} (hj : j < k) (hk : k < E.length) : E.getD j 0 ≠ E.getD k 0 := fun e => by
  rw [List.getD_eq_getElem?_getD, List.getD_eq_getElem?_getD, List.getElem?_eq_getElem (by omega), List.getElem?_eq_getElem hk] at e
  simp only [Option.getD_some] at e
  have h := (List.pairwise_iff_getElem.1 hn) j k (by omega) hk hj
  exact h e
section
variable {lf : Nat → Int} {m : Nat} (hv : ∀ k, k < m → lf k < k ∧ -1 ≤ lf k)
include hv
theorem bo_sum (ow : Nat → Int) {i : Nat} (hi : i < m) : boN lf m ow i = sumN (fun x => if x ∈ i :: unL lf m m i then ow x else 0) m := by
  have h : (i :: unL lf m m i).Nodup := List.nodup_cons.2 ⟨fun hm => ((unL_mem hv m i (by omega) hi i).1 hm).2.1 rfl, unL_nodup hv m i (by omega) hi⟩
  rw [← sum_list ow _ h (fun x hx => by
    rcases List.mem_cons.1 hx with rfl | hx
    · exact hi
    · exact ((unL_mem hv m i (by omega) hi x).1 hx).1)]
  simp [boN]
theorem in_un {i e : Nat} (hi : i < m) (he : e < m) : e ∈ i :: unL lf m m i ↔ i ∈ upO lf m (e : Nat) := by
  rw [List.mem_cons, unL_mem hv m i (by omega) hi e]
  constructor
  · rintro (rfl | h)
    · rw [upO_step hv he]; simp
    · exact h.2.2
  · intro h
    by_cases e' : e = i
    · exact .inl e'
    · exact .inr ⟨he, e', h⟩
/-- What links bear by the loads under them is what they bear end by end. -/
theorem bo_rb {lo : Nat → Int} {E : List Nat} (hn : E.Nodup) (hE : ∀ e ∈ E, e < m) {i : Nat} (hi : i < m) : ∀ k, k ≤ E.length → boN lf m (owN lo E k) i = rbN lf m lo E k i
  | 0, _ => by
    rw [bo_sum hv _ hi]
    have : sumN (fun x => if x ∈ i :: unL lf m m i then owN lo E 0 x else 0) m = sumN (fun _ => 0) m := sumN_congr m (fun x _ => by simp [owN])
    rw [this, sumN_zero]
    rfl
  | k + 1, hk => by
    have he : E.getD k 0 < m := hE _ (by rw [List.getD_eq_getElem?_getD, List.getElem?_eq_getElem (by omega)]; exact List.getElem_mem _)
    rw [bo_sum hv _ hi]
    show sumN (fun x => if x ∈ i :: unL lf m m i then updF (owN lo E k) (E.getD k 0) (lo k) x else 0) m = rbN lf m lo E k i + if i ∈ upO lf m (E.getD k 0 : Nat) then lo k else 0
    rw [sumN_upd he (owN_new k (by omega) (fun j hj => getD_ne hn hj (by omega))), ← bo_sum hv _ hi, bo_rb hn hE hi k (by omega)]
    congr 1
    by_cases h : i ∈ upO lf m (E.getD k 0 : Nat)
    · rw [if_pos h, if_pos ((in_un hv hi he).2 h)]
    · rw [if_neg h, if_neg (fun q => h ((in_un hv hi he).1 q))]
end
theorem rb_bd {lf : Nat → Int} {m : Nat} {lo : Nat → Int} {E : List Nat} (h : ∀ j, j < E.length → 0 ≤ lo j ∧ lo j ≤ 1000000) (i : Nat) : ∀ k, k ≤ E.length → 0 ≤ rbN lf m lo E k i ∧ rbN lf m lo E k i ≤ 1000000 * k
  | 0, _ => by simp [rbN]
  | k + 1, hk => by
    have h1 := rb_bd (lf := lf) (m := m) h i k (by omega)
    have h2 := h k (by omega)
    unfold rbN
    by_cases hq : i ∈ upO lf m (E.getD k 0 : Nat)
    · rw [if_pos hq]; omega
    · rw [if_neg hq]; omega
theorem thN_nodup (p : Nat → Bool) (m : Nat) : (thN p m).Nodup := by
  unfold thN
  exact List.Nodup.sublist List.filter_sublist List.nodup_range
end Go.Proofs.YteojmhfocdlnoaaDoor.Tr
