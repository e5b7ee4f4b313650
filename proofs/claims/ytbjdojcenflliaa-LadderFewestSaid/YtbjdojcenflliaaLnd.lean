/- The counts of the reference, as mathematics; a row that is written. -/
import Derived.Test.YtbjdojcenflliaaLdpw
import Derived.Test.YtbjdojcenflliaaLdq
namespace Go.Proofs.Ytbjdojcenflliaa
open Go.RowKit

/-- A row of the call's own that is written: its numbers. -/
def DRw (W : World) (B : Nat) (m : Nat) (g : Nat → Int) : Prop := B < W.heap.size ∧ ∀ k, k < m → W.cell? ⟨B, k, none⟩ = some (.int .i64 (g k)) ∧ W.frozen? ⟨B, k, none⟩ = false
theorem DRw.at {W : World} {B m : Nat} {g : Nat → Int} (h : DRw W B m g) : DAt W (some ⟨B, 0, none⟩) m g := fun k hk => ⟨B, 0, rfl, h.1, by rw [Nat.zero_add]; exact (h.2 k hk).1⟩
theorem DRw.same {W W' : World} {B m : Nat} {g : Nat → Int} (h : DRw W B m g) (hs : W.heap.size ≤ W'.heap.size) (e : W'.heap[B]? = W.heap[B]?) : DRw W' B m g :=
  ⟨Nat.lt_of_lt_of_le h.1 hs, fun k hk => ⟨(World.cell?_of_block (a := ⟨B, k, none⟩) e).trans (h.2 k hk).1, (World.frozen?_of_block (a := ⟨B, k, none⟩) e).trans (h.2 k hk).2⟩⟩
theorem DRw.on {W W' : World} {B m : Nat} {g : Nat → Int} (h : DRw W B m g) (hb : Below W.heap.size W W') : DRw W' B m g := h.same hb.size (hb.block B h.1)
theorem DRw.set {W : World} {B m : Nat} {g : Nat → Int} (h : DRw W B m g) {x : Nat} (u : Int) {g' : Nat → Int} (hg : ∀ k, k < m → g' k = if k = x then u else g k) : DRw (W.setCell ⟨B, x, none⟩ (.int .i64 u)) B m g' := by
  refine ⟨by simpa using h.1, fun k hk => ⟨?_, by simpa using (h.2 k hk).2⟩⟩
  rw [hg k hk]
  by_cases e : k = x
  · subst e
    rw [if_pos rfl]
    exact World.cell?_setCell_same W ⟨B, k, none⟩ _ (h.2 k hk).1
  · rw [if_neg e, World.cell?_setCell_other _ _ _ _ (fun q => e (by cases q; rfl))]
    exact (h.2 k hk).1
theorem DRw.re {W : World} {B m : Nat} {g g' : Nat → Int} (h : DRw W B m g) (e : ∀ k, k < m → g' k = g k) : DRw W B m g' := ⟨h.1, fun k hk => by rw [e k hk]; exact h.2 k hk⟩
theorem drw_made (W : World) (m : Nat) (hm : m ≤ 1000) : DRw (W.alloc (.cells (madeCells #[.int .i64 0] m) 3)) W.heap.size m (fun _ => 0) := by
  have hh := heap_alloc_new W (.cells (madeCells #[.int .i64 0] m) 3)
  refine ⟨by simp, fun k hk => ⟨?_, frozen_of_row _ _ _ _ _ hh⟩⟩
  rw [cell_of_row _ _ _ _ _ _ hh]
  simp [madeCells, hk, Nat.mod_one]
/-- What need has found out when the places from p on are done. -/
def ndP (hg : Nat → Int) (sd : Nat → Bool) (n : Nat) (st la : Int) (p k : Nat) : Nat := if p ≤ k ∧ k < n ∧ sd k = true then ctN hg sd n st la k else 0
section
variable {hg : Nat → Int} {sd : Nat → Bool} {n : Nat} {st la : Int}
theorem ndP_le (p k : Nat) : ndP hg sd n st la p k ≤ n := by
  unfold ndP
  split
  · exact ctS_le n k
  · omega
theorem ndP_zero {p : Nat} (hp : p < n) (hs : sd p = false) (k : Nat) : ndP hg sd n st la p k = ndP hg sd n st la (p + 1) k := by
  unfold ndP
  by_cases e : k = p
  · subst e
    rw [if_neg (fun h => by rw [hs] at h; cases h.2.2), if_neg (fun h => by omega)]
  · by_cases q : p ≤ k ∧ k < n ∧ sd k = true
    · rw [if_pos q, if_pos ⟨by omega, q.2⟩]
    · rw [if_neg q, if_neg (fun h => q ⟨by omega, h.2⟩)]
theorem ndP_set {p : Nat} (hp : p < n) (hs : sd p = true) {v : Nat} (hv : ctN hg sd n st la p = v) (k : Nat) : ((ndP hg sd n st la p k : Nat) : Int) = if k = p then (v : Int) else ((ndP hg sd n st la (p + 1) k : Nat) : Int) := by
  unfold ndP
  by_cases e : k = p
  · subst e
    rw [if_pos rfl, if_pos ⟨Nat.le_refl _, hp, hs⟩, hv]
  · rw [if_neg e]
    by_cases q : p ≤ k ∧ k < n ∧ sd k = true
    · rw [if_pos q, if_pos ⟨by omega, q.2⟩]
    · rw [if_neg q, if_neg (fun h => q ⟨by omega, h.2⟩)]
theorem ndP_at {p k : Nat} (hk : p ≤ k) (hn : k < n) : ndP hg sd n st la p k = if sd k = true then ctN hg sd n st la k else 0 := by
  unfold ndP
  by_cases q : sd k = true
  · rw [if_pos q, if_pos ⟨hk, hn, q⟩]
  · rw [if_neg q, if_neg (fun h => q h.2.2)]
end
end Go.Proofs.Ytbjdojcenflliaa
