/- slices.Reverse of an own list of integers: the shelf's contract, laid. -/
import Derived.Shelf.Slices.Reverse
import Derived.Sort.OwnSortedInts
import Derived.Lib.SmallJoins
import Derived.Test.YtplhbklfaokjbaaDoorRopen
namespace Go.Proofs.YtplhbklfaokjbaaDoor
open Go.Shelf Go.RowKit Go.Sort
def lrev_ren : Go.Shelf.Ren := ⟨fun | 112 => 72 | n => n, fun | 0 => 0 | 3 => 3 | 4 => 4 | 28 => 41 | n => n, fun n => n⟩
theorem lrev : Go.Proofs.Lays.n112 Tryd.prog lrev_ren := {
  mixed := by kernel_rfl
  f112 := Tryd.func72.trans (congrArg some (by kernel_rfl))
  t0 := Tryd.underlying0
  a0 := Tryd.isAgg0
  z0 := Tryd.sizeOf0
  v0 := Tryd.zeroValue0
  t3 := Tryd.underlying3
  a3 := Tryd.isAgg3
  z3 := Tryd.sizeOf3
  v3 := Tryd.zeroValue3
  t4 := Tryd.underlying4
  a4 := Tryd.isAgg4
  z4 := Tryd.sizeOf4
  v4 := Tryd.zeroValue4
  t28 := Tryd.underlying41
  a28 := Tryd.isAgg41
  z28 := Tryd.sizeOf41
  v28 := Tryd.zeroValue41 }

/-- A list of the call's own, read. -/
def IRow (W : World) (B : Nat) (v : Value) (L : List Nat) : Prop :=
  ∃ a cap, v = .slice a L.length cap ∧ (0 < L.length → ∃ g, a = some ⟨g, 0, none⟩ ∧ B ≤ g ∧ g < W.heap.size ∧ ∀ i, i < L.length → W.cell? ⟨g, i, none⟩ = some (.int .i64 (L.getD i 0 : Nat)))
theorem irow_of {W : World} {B : Nat} {v : Value} {L : List Nat} (h : W.ownsRow B 3 1 v L.length (ixC L)) : IRow W B v L := by
  by_cases h0 : L.length = 0
  · have h' := h
    rw [h0] at h'
    rcases Go.Joins.ownsRow_forms h' with ⟨rfl, _⟩ | ⟨g, c, rfl⟩
    · exact ⟨_, _, by rw [h0], fun h => by omega⟩
    · exact ⟨_, _, by rw [h0], fun h => by omega⟩
  · obtain ⟨g, c, rfl⟩ := Go.Joins.ownsRow_form h (by omega)
    exact ⟨_, c, rfl, fun _ => ⟨g, rfl, (h.lt g rfl).1, (h.lt g rfl).2, fun i hi => by
      rw [h.cellAt _ (by omega)]
      simp [ixC, hi]⟩⟩
theorem IRow.on {W V : World} {B : Nat} {v : Value} {L : List Nat} (h : IRow W B v L) (hV : Below W.heap.size W V) : IRow V B v L := by
  obtain ⟨a, cap, rfl, h⟩ := h
  refine ⟨a, cap, rfl, fun h0 => ?_⟩
  obtain ⟨g, rfl, h1, h2, h3⟩ := h h0
  exact ⟨g, rfl, h1, Nat.lt_of_lt_of_le h2 hV.size, fun i hi => (hV.cell (p := ⟨g, i, none⟩) h2).trans (h3 i hi)⟩
theorem sameInts_irow {W : World} {B B' : Nat} {v v' : Value} {L : List Nat} (h : IRow W B v L) (h' : IRow W B' v' L) (hL : L.length ≤ 1000) :
    Calls Tryd.prog 33 #[v, v'] W fun e w' => e = .returned (.bool true) ∧ Below W.heap.size W w' := by
  obtain ⟨a, c, rfl, h⟩ := h
  obtain ⟨a', c', rfl, h'⟩ := h'
  by_cases h0 : L.length = 0
  · rw [h0]; exact sameInts_nil _ _ _ _ _
  · obtain ⟨g, rfl, h1, h2, h3⟩ := h (by omega)
    obtain ⟨g', rfl, h4, h5, h6⟩ := h' (by omega)
    exact sameInts_row g 0 g' 0 L.length c c' (fun i => ((L.getD i 0 : Nat) : Int)) W h2 h5 hL (fun i hi => by rw [Nat.zero_add]; exact h3 i hi) (fun i hi => by rw [Nat.zero_add]; exact h6 i hi)
theorem rev_any {W : World} {B : Nat} {v : Value} {L : List Nat} (h : W.ownsRow B 3 1 v L.length (ixC L)) (hL : L.length ≤ 1000) :
    Calls Tryd.prog 72 #[v] W fun e w' => e = .returned (.tuple #[]) ∧ IRow w' B v L.reverse ∧ W.grownBy w' v.ownBlock := by
  by_cases h0 : L.length = 0
  · have hL0 : L = [] := List.length_eq_zero_iff.1 h0
    subst hL0
    have hr := irow_of h
    obtain ⟨a, cap, rfl, _⟩ := id hr
    refine (Any.slices_Reverse_int_empty lrev a cap W).mono ?_
    rintro e w' ⟨rfl, rfl⟩
    exact ⟨rfl, hr, World.grownBy.refl _ _⟩
  · obtain ⟨g, c, rfl⟩ := Go.Joins.ownsRow_form h (by omega)
    have hlen : (L.map (fun (i : Nat) => (i : Int))).length = L.length := by simp
    have hH : Holds (Value.int .i64) W g 0 (L.map (fun (i : Nat) => (i : Int))).toArray := fun j hj => by
      have hj' : j < L.length := by simpa using hj
      refine ⟨?_, h.frozenAt _⟩
      rw [Nat.zero_add, h.cellAt _ (by omega)]
      simp [ixC, hj']
    have hc := Any.slices_Reverse_int lrev g 0 c (L.map (fun (i : Nat) => (i : Int))) W hH (by rw [hlen]; omega)
    rw [hlen] at hc
    refine hc.mono ?_
    rintro e w' ⟨rfl, n, rfl⟩
    have hg := (h.lt g rfl)
    refine ⟨rfl, ⟨_, c, by simp, fun _ => ⟨g, rfl, hg.1, by simp [Sort.ahead]; exact hg.2, fun i hi => ?_⟩⟩, ?_⟩
    · have := (holds_putRow (Value.int .i64) (Sort.ahead W n) g 0 (L.map (fun (i : Nat) => (i : Int))).toArray (L.map (fun (i : Nat) => (i : Int))).reverse.toArray (holds_ahead (Value.int .i64) W n g 0 _ hH) (by simp) i (by simpa using hi)).1
      rw [Nat.zero_add] at this
      rw [this]
      have hi' : i < L.length := by simpa using hi
      simp [hi']
    · have := grownBy_sortedI (w := W) (g := g) (n := n) (os := #[]) (L.map (fun (i : Nat) => (i : Int))).reverse.toArray
      rw [grow_empty] at this
      exact this
end Go.Proofs.YtplhbklfaokjbaaDoor
