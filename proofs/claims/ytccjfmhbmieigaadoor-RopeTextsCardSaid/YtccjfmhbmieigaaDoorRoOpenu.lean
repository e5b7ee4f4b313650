/- Arguments opened: slices of uses, with their room. -/
import Derived.Test.YtccjfmhbmieigaaDoorRoOpenr
import Derived.Test.YtccjfmhbmieigaaDoorRoWorn
namespace Go.Proofs.YtccjfmhbmieigaaDoor.Ro
open Go.Proofs.YtccjfmhbmieigaaDoor
open Go.ChangeShapes Go.WideShapes Go.ChangeAt Go.RowKit Go.Joins Go.Deep
section
variable {H : Type} {enc : TypeId × Value → H} {P : Program} {w : World} {base : Nat} {spare : Nat → Bool} {held : Bool}
theorem open_prc {r : Reach} {b0 : Nat} {t e : TypeId} {fs : Array Field} {v : Value} {d : DataW H} {p : List MemPlace} (ht : P.underlying t = some (.slice e)) (he : P.underlying e = some (.struct fs)) (ce : P.cellsOf e = 2) (hs : fs.size = 2) (hf : intFieldsB P 0 fs.toList = true)
    (hv : Value.okWide P w r b0 t v) (h : DataW.Trod enc P w base spare held t v d p) :
    ∃ ps : List (Int × Int), Prc w w.heap.size v ps := by
  obtain ⟨a, len, cap, rfl⟩ := okWide_slice ht hv
  obtain ⟨fuel, h⟩ := h
  rcases open_slice ht h with ⟨h0, _⟩ | ⟨a', len', cap', m, k, D, Pl, h0, hb, hl, hm, hmm, _, hx⟩
  · simp [Value.cells] at h0
    obtain ⟨rfl, rfl, rfl⟩ := h0
    exact ⟨[], .inl ⟨rfl, rfl⟩⟩
  · simp [Value.cells] at h0
    obtain ⟨rfl, rfl, rfl⟩ := h0
    have hcap : cap ≤ 9223372036854775807 := by unfold maxLen at hm; omega
    rcases Nat.eq_zero_or_pos len with rfl | hpos
    · exact ⟨[], .inr (.inl ⟨_, _, rfl, hcap, rfl⟩)⟩
    have hlm : len ≤ m := by rw [hmm]; split <;> omega
    have each : ∀ i, i < len → ∃ V : Nat → Int, ∀ j, j < 2 → w.cell? ((a'.add (i * 2)).add j) = some (.int .i64 (V j)) ∧ (Lit.int .i64 (V j)).wf = true := by
      intro i hi
      obtain ⟨cs, h1, h2⟩ := hx i (by omega)
      rw [ce] at h1
      exact open_fields he hs hf h1 h2
    obtain ⟨V, hV⟩ := choose_lt each
    have g0 := (hV 0 hpos 0 (by omega)).1
    obtain ⟨b, off, sp⟩ := a'
    have hsp : sp = none := by simpa [Addr.add] using World.cell?_spot g0
    subst hsp
    refine ⟨(List.range len).map fun i => (V i 0, V i 1), .inr (.inr ⟨b, off, cap, by simp, by simpa using hpos, by simpa using hl, hcap, World.block_lt_of_cell? w _ (by simpa [add_plain] using g0), fun i hi => ?_⟩)⟩
    simp only [List.length_map, List.length_range] at hi
    rw [getD_range_map _ _ hi]
    have h0 := (hV i hi 0 (by omega)).1
    have h1 := (hV i hi 1 (by omega)).1
    exact ⟨by simpa [add_plain] using h0, by simpa [add_plain] using h1⟩
end
end Go.Proofs.YtccjfmhbmieigaaDoor.Ro
