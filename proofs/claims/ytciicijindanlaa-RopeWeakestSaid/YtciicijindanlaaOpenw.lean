/- Arguments opened: slices of ropes, slices of lists of uses. -/
import Derived.Test.YtciicijindanlaaOpenu
import Derived.Test.YtciicijindanlaaWeakm
namespace Go.Proofs.Ytciicijindanlaa
open Go.ChangeShapes Go.WideShapes Go.ChangeAt Go.RowKit Go.Joins Go.Deep
section
variable {H : Type} {enc : TypeId × Value → H} {P : Program} {w : World} {base : Nat} {spare : Nat → Bool} {held : Bool}
theorem open_rps {r : Reach} {b0 : Nat} {t e : TypeId} {fs : Array Field} {v : Value} {d : DataW H} {p : List MemPlace} (ht : P.underlying t = some (.slice e)) (he : P.underlying e = some (.struct fs)) (ce : P.cellsOf e = 3) (hs : fs.size = 3) (hf : intFieldsB P 0 fs.toList = true)
    (hv : Value.okWide P w r b0 t v) (h : DataW.Trod enc P w base spare held t v d p) :
    ∃ n R, Rps w w.heap.size v n R := by
  obtain ⟨a, len, cap, rfl⟩ := okWide_slice ht hv
  obtain ⟨fuel, h⟩ := h
  rcases open_slice ht h with ⟨h0, _⟩ | ⟨a', len', cap', m, k, D, Pl, h0, hb, hl, hm, hmm, _, hx⟩
  · simp [Value.cells] at h0
    obtain ⟨rfl, rfl, rfl⟩ := h0
    exact ⟨0, fun _ => (0, 0, 0), _, _, rfl, by omega, fun h => absurd h (by omega)⟩
  · simp [Value.cells] at h0
    obtain ⟨rfl, rfl, rfl⟩ := h0
    have hcap : cap ≤ 9223372036854775807 := by unfold maxLen at hm; omega
    have hlm : len ≤ m := by rw [hmm]; split <;> omega
    have each : ∀ i, i < len → ∃ V : Nat → Int, ∀ j, j < 3 → w.cell? ((a'.add (i * 3)).add j) = some (.int .i64 (V j)) ∧ (Lit.int .i64 (V j)).wf = true := by
      intro i hi
      obtain ⟨cs, h1, h2⟩ := hx i (by omega)
      rw [ce] at h1
      exact open_fields he hs hf h1 h2
    obtain ⟨V, hV⟩ := choose_lt each
    refine ⟨len, fun i => (V i 0, V i 1, V i 2), _, _, rfl, by omega, fun hpos => ?_⟩
    have g0 := (hV 0 hpos 0 (by omega)).1
    obtain ⟨b, off, sp⟩ := a'
    have hsp : sp = none := by simpa [Addr.add] using World.cell?_spot g0
    subst hsp
    refine ⟨b, off, rfl, World.block_lt_of_cell? w _ (by simpa [add_plain] using g0), fun i hi => ?_⟩
    have h0 := (hV i hi 0 (by omega)).1
    have h1 := (hV i hi 1 (by omega)).1
    have h2 := (hV i hi 2 (by omega)).1
    exact ⟨by simpa [add_plain] using h0, by simpa [add_plain] using h1, by simpa [add_plain] using h2⟩

theorem open_prcC {t e : TypeId} {fs : Array Field} {c : Value} {n : Nat} {y : DataW H × List MemPlace} (ht : P.underlying t = some (.slice e)) (he : P.underlying e = some (.struct fs)) (ce : P.cellsOf e = 2) (hs : fs.size = 2) (hf : intFieldsB P 0 fs.toList = true)
    (h : DataW.trod enc P w base spare held n t [c] = some y) :
    ∃ ps : List (Int × Int), Prc w w.heap.size c ps := by
  rcases open_slice ht h with ⟨h0, _⟩ | ⟨a', len, cap, m, k, D, Pl, h0, hb, hl, hm, hmm, _, hx⟩
  · simp at h0; subst h0
    exact ⟨[], .inl ⟨rfl, rfl⟩⟩
  · simp at h0; subst h0
    have hcap : cap ≤ 9223372036854775807 := by unfold maxLen at hm; omega
    rcases Nat.eq_zero_or_pos len with rfl | hpos
    · exact ⟨[], .inr (.inl ⟨_, _, rfl, hcap, rfl⟩)⟩
    have hlm : len ≤ m := by rw [hmm]; split <;> omega
    have each : ∀ i, i < len → ∃ V : Nat → Int, ∀ j, j < 2 → w.cell? ((a'.add (i * 2)).add j) = some (.int .i64 (V j)) ∧ (Lit.int .i64 (V j)).wf = true := by
      intro i hi
      obtain ⟨cs, h1, h2⟩ := hx i (by omega)
      rw [ce] at h1
      exact open_fields he hs hf h1 h2
    obtain ⟨V, hV⟩ := choose_lt each
    have g0 := (hV 0 hpos 0 (by omega)).1
    obtain ⟨b, off, sp⟩ := a'
    have hsp : sp = none := by simpa [Addr.add] using World.cell?_spot g0
    subst hsp
    refine ⟨(List.range len).map fun i => (V i 0, V i 1), .inr (.inr ⟨b, off, cap, by simp, by simpa using hpos, by simpa using hl, hcap, World.block_lt_of_cell? w _ (by simpa [add_plain] using g0), fun i hi => ?_⟩)⟩
    simp only [List.length_map, List.length_range] at hi
    rw [getD_range_map _ _ hi]
    have h0 := (hV i hi 0 (by omega)).1
    have h1 := (hV i hi 1 (by omega)).1
    exact ⟨by simpa [add_plain] using h0, by simpa [add_plain] using h1⟩

theorem open_uss {r : Reach} {b0 : Nat} {t u e : TypeId} {fs : Array Field} {v : Value} {d : DataW H} {p : List MemPlace} (ht : P.underlying t = some (.slice u)) (cu : P.cellsOf u = 1) (hu : P.underlying u = some (.slice e)) (he : P.underlying e = some (.struct fs)) (ce : P.cellsOf e = 2) (hs : fs.size = 2) (hf : intFieldsB P 0 fs.toList = true)
    (hv : Value.okWide P w r b0 t v) (h : DataW.Trod enc P w base spare held t v d p) :
    ∃ n U, Uss w w.heap.size v n U := by
  obtain ⟨a, len, cap, rfl⟩ := okWide_slice ht hv
  obtain ⟨fuel, h⟩ := h
  rcases open_slice1 ht cu h with ⟨h0, _⟩ | ⟨a', len', cap', m, k, V, D, Pl, h0, hb, hl, hm, hmm, _, hx⟩
  · simp [Value.cells] at h0
    obtain ⟨rfl, rfl, rfl⟩ := h0
    exact ⟨0, fun _ => [], _, _, rfl, by omega, fun h => absurd h (by omega)⟩
  · simp [Value.cells] at h0
    obtain ⟨rfl, rfl, rfl⟩ := h0
    have hcap : cap ≤ 9223372036854775807 := by unfold maxLen at hm; omega
    have hlm : len ≤ m := by rw [hmm]; split <;> omega
    have each : ∀ i, i < len → ∃ ps : List (Int × Int), w.cell? (a'.add i) = some (V i) ∧ Prc w w.heap.size (V i) ps := by
      intro i hi
      obtain ⟨h1, h2⟩ := hx i (by omega)
      obtain ⟨ps, hp⟩ := open_prcC hu he ce hs hf h2
      exact ⟨ps, h1, hp⟩
    obtain ⟨U, hU⟩ := choose_lt each
    refine ⟨len, U, _, _, rfl, by omega, fun hpos => ?_⟩
    have g0 := (hU 0 hpos).1
    obtain ⟨b, off, sp⟩ := a'
    have hsp : sp = none := by simpa [Addr.add] using World.cell?_spot g0
    subst hsp
    refine ⟨b, off, rfl, World.block_lt_of_cell? w _ (by simpa [add_plain] using g0), fun i hi => ?_⟩
    obtain ⟨h1, h2⟩ := hU i hi
    exact ⟨V i, by simpa [add_plain] using h1, h2⟩
end
end Go.Proofs.Ytciicijindanlaa
