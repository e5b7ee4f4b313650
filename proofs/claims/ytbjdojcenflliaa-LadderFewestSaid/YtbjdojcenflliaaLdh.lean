/- MY LAW: a drawn region inside a fence (in a round too), by an invariant over what is listed. -/
import Derived.Test.YtbjdojcenflliaaProg
import Derived.OrdersIn
namespace Go.Proofs.Ytbjdojcenflliaa

section
variable {F : Fence} {n : Nat} {P : Program} {ops : Array Oper} {Q : Exit → Act → World → Prop} {md : Region.Mode}
theorem ready_un {L : Array Bool} {i : Nat} (h : i ∈ Region.ready md ops L) : ∃ h : i < L.size, L[i] = false := by
  unfold Region.ready at h
  have h2 := (List.mem_filter.1 h).2
  simp only [Bool.and_eq_true, Bool.not_eq_true'] at h2
  have h3 := h2.1
  unfold Array.getD at h3
  split at h3
  · rename_i hl; exact ⟨hl, h3⟩
  · cases h3
theorem ready_after {L : Array Bool} {i : Nat} {o : Oper} (h : i ∈ Region.ready md ops L) (ho : ops[i]? = some o) : ∀ e ∈ o.after, Region.binds md e = true → L.getD e.on false = true := fun e he hb => by
  unfold Region.ready at h
  have h2 := (List.mem_filter.1 h).2
  rw [ho] at h2
  simp only [Option.map_some, Option.getD_some, Bool.and_eq_true] at h2
  have h3 := Array.all_eq_true_iff_forall_mem.1 h2.2 e he
  rw [hb] at h3
  simpa using h3
theorem count_set {L : Array Bool} {i : Nat} (hi : i < L.size) (hf : L[i] = false) : (L.setIfInBounds i true).toList.count false < L.toList.count false := by
  have hl : i < L.toList.length := by simpa using hi
  have hc : 0 < L.toList.count false := List.count_pos_iff.2 (by rw [← hf]; simp)
  have e : L.toList[i] = false := by simpa using hf
  rw [Array.toList_setIfInBounds, List.count_set hl, e]
  show L.toList.count false - 1 + 0 < _
  omega
theorem wpAnyIn_inv (I : Array Bool → Act → World → Prop) (hend : ∀ L a w, I L a w → Region.ready md ops L = [] → Q .normal a w)
    (hstep : ∀ L a w, I L a w → ∀ i ∈ Region.ready md ops L, wpOpIn F n P ops Q i (fun a' w' => I (L.setIfInBounds i true) a' w') a w) :
    ∀ (fuel : Nat) (L : Array Bool) (a : Act) (w : World), L.toList.count false ≤ fuel → I L a w → wpAnyIn F n P md ops Q fuel L a w
  | 0, L, a, w, hc, hI => by
    have hr : Region.ready md ops L = [] := by
      cases h : Region.ready md ops L with
      | nil => rfl
      | cons i t =>
        obtain ⟨hi, hf⟩ := ready_un (md := md) (ops := ops) (L := L) (i := i) (by rw [h]; simp)
        have := count_set hi hf
        omega
    exact ⟨hr, hend L a w hI hr⟩
  | fuel + 1, L, a, w, hc, hI => by
    refine ⟨hend L a w hI, fun i hi => wpOpIn_mono (fun a' w' h => ?_) (hstep L a w hI i hi)⟩
    obtain ⟨h1, h2⟩ := ready_un hi
    have := count_set h1 h2
    exact wpAnyIn_inv I hend hstep fuel _ a' w' (by omega) h
theorem wpIn_region_inv {id : Nat} {a : Act} {w : World} (hm : P.follows .mixedOrders = true) (I : Array Bool → Act → World → Prop) (hend : ∀ L a w, I L a w → Region.ready .any ops L = [] → Q .normal a w)
    (hstep : ∀ L a w, I L a w → ∀ i ∈ Region.ready .any ops L, wpOpIn F n P ops Q i (fun a' w' => I (L.setIfInBounds i true) a' w') a w)
    (h0 : I (Array.replicate ops.size false) a { w with drawn := w.drawn + 1 }) : (Code.region id ops true).wpIn F n P Q a w :=
  wpIn_region_any hm (wpAnyIn_inv I hend hstep _ _ _ _ (by
    simp) h0)
theorem all_listed {L : Array Bool} (hs : L.size = ops.size) (hb : (List.range ops.size).all (fun i => ((ops[i]?).map (·.after.all fun e => decide (e.on < i))).getD true) = true) (hr : Region.ready md ops L = []) : ∀ i, i < ops.size → L.getD i false = true := by
  intro i
  induction i using Nat.strongRecOn with
  | ind i ih =>
    intro hi
    have hl : i < L.size := by omega
    cases hv : L[i] with
    | true => unfold Array.getD; rw [dif_pos hl]; exact hv
    | false =>
      have hm : i ∈ Region.ready md ops L := by
        unfold Region.ready
        refine List.mem_filter.2 ⟨List.mem_range.2 hi, ?_⟩
        have ho : ops[i]? = some ops[i] := Array.getElem?_eq_getElem hi
        have h2 := List.all_eq_true.1 hb i (List.mem_range.2 hi)
        rw [ho] at h2 ⊢
        simp only [Option.map_some, Option.getD_some, Bool.and_eq_true] at h2 ⊢
        refine ⟨by unfold Array.getD; rw [dif_pos hl]; simpa using hv, ?_⟩
        refine Array.all_eq_true_iff_forall_mem.2 fun e he => ?_
        have h3 := of_decide_eq_true (Array.all_eq_true_iff_forall_mem.1 h2 e he)
        rw [ih e.on h3 (by omega), Bool.or_true]
      rw [hr] at hm
      cases hm
theorem getD_set {L : Array Bool} {i j : Nat} (hi : i < L.size) : (L.setIfInBounds i true).getD j false = if j = i then true else L.getD j false := by
  unfold Array.getD
  by_cases e : j = i
  · subst e; rw [if_pos rfl, dif_pos (by simpa using hi)]; simp
  · rw [if_neg e]
    by_cases hj : j < L.size
    · rw [dif_pos (by simpa using hj), dif_pos hj]; exact Array.getElem_setIfInBounds_ne hj (fun h => e h.symm)
    · rw [dif_neg (by simpa using hj), dif_neg hj]
end
end Go.Proofs.Ytbjdojcenflliaa
