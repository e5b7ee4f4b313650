/- A slice of courses opened, with its room. -/
import Derived.Test.YtplhbklfaokjbaaDoorLaid
import Derived.Test.YtplhbklfaokjbaaDoorMakes
namespace Go.Proofs.YtplhbklfaokjbaaDoor
open Go.RowKit Go.ChangeShapes Go.WideShapes Go.Joins Go.Deep

section
variable {H : Type} {enc : TypeId × Value → H} {P : Program} {w : World} {base : Nat} {spare : Nat → Bool} {held : Bool}
/-- A slice of such structs: without an element, or with all its cells. -/
theorem open_rows2 {r : Reach} {b0 : Nat} {t e : TypeId} {fs : Array Field} {k : Nat} {v : Value} {d : DataW H} {p : List MemPlace} (ht : P.underlying t = some (.slice e)) (he : P.underlying e = some (.struct fs)) (hk : 0 < k) (ce : P.cellsOf e = k) (hs : fs.size = k) (hf : intFieldsB P 0 fs.toList = true)
    (hv : Value.okWide P w r b0 t v) (h : DataW.Trod enc P w base spare held t v d p) :
    (∃ a cap, v = .slice a 0 cap) ∨ ∃ (b off len cap : Nat) (V : Nat → Nat → Int), v = .slice (some ⟨b, off, none⟩) len cap ∧ 0 < len ∧ len ≤ cap ∧ cap ≤ maxLen ∧ b < w.heap.size ∧
      ∀ i, i < len → ∀ j, j < k → w.cell? ⟨b, off + i * k + j, none⟩ = some (.int .i64 (V i j)) ∧ (Lit.int .i64 (V i j)).wf = true := by
  obtain ⟨a, len, cap, rfl⟩ := okWide_slice ht hv
  obtain ⟨fuel, h⟩ := h
  rcases open_slice ht h with ⟨h0, _⟩ | ⟨a', len', cap', m, n, D, Pl, h0, hb, hl, hm, hmm, _, hx⟩
  · simp [Value.cells] at h0
    obtain ⟨rfl, rfl, rfl⟩ := h0
    exact .inl ⟨_, _, rfl⟩
  · simp [Value.cells] at h0
    obtain ⟨rfl, rfl, rfl⟩ := h0
    rcases Nat.eq_zero_or_pos len with rfl | hpos
    · exact .inl ⟨_, _, rfl⟩
    right
    have hlm : len ≤ m := by rw [hmm]; split <;> omega
    have each : ∀ i, i < len → ∃ V : Nat → Int, ∀ j, j < k → w.cell? ((a'.add (i * k)).add j) = some (.int .i64 (V j)) ∧ (Lit.int .i64 (V j)).wf = true := by
      intro i hi
      obtain ⟨cs, h1, h2⟩ := hx i (by omega)
      rw [ce] at h1
      exact open_fields he hs hf h1 h2
    obtain ⟨V, hV⟩ := choose_lt each
    have g0 := (hV 0 hpos 0 hk).1
    obtain ⟨b, off, sp⟩ := a'
    have hsp : sp = none := by simpa [Addr.add] using World.cell?_spot g0
    subst hsp
    refine ⟨b, off, len, cap, V, rfl, hpos, by omega, by omega, World.block_lt_of_cell? w _ (by simpa [add_plain] using g0), fun i hi j hj => ?_⟩
    have := hV i hi j hj
    simpa [add_plain] using this
theorem open_crsC {r : Reach} {b0 : Nat} {t e : TypeId} {fs : Array Field} {v : Value} {d : DataW H} {p : List MemPlace} (ht : P.underlying t = some (.slice e)) (he : P.underlying e = some (.struct fs)) (ce : P.cellsOf e = 6) (hs : fs.size = 6) (hf : intFieldsB P 0 fs.toList = true)
    (hv : Value.okWide P w r b0 t v) (h : DataW.Trod enc P w base spare held t v d p) : ∃ n f, Crs w w.heap.size v n f ∧ RoomC v n := by
  rcases open_rows2 (k := 6) ht he (by omega) ce hs hf hv h with ⟨a, cap, rfl⟩ | ⟨b, off, len, cap, V, rfl, h0, hm, hcm, hb, hc⟩
  · exact ⟨0, fun _ _ => 0, ⟨a, cap, rfl, fun h => absurd h (by omega)⟩, fun _ _ _ h => absurd h (by omega)⟩
  · refine ⟨len, V, ⟨some ⟨b, off, none⟩, cap, rfl, fun _ => ⟨b, off, rfl, hb, fun i hi => ⟨(hc i hi 0 (by omega)).1, (hc i hi 1 (by omega)).1, (hc i hi 2 (by omega)).1, (hc i hi 3 (by omega)).1, (hc i hi 4 (by omega)).1, (hc i hi 5 (by omega)).1⟩⟩⟩, fun a' cap' e _ => ?_⟩
    cases e
    unfold maxLen at hcm
    exact ⟨hm, hcm⟩
/-- A struct of six integers by value. -/
theorem open_valC {r : Reach} {b0 : Nat} {t : TypeId} {fs : Array Field} {v : Value} {d : DataW H} {p : List MemPlace} (he : P.underlying t = some (.struct fs)) (hs : fs.size = 6) (hf : intFieldsB P 0 fs.toList = true) (hC : P.cellsOf t = 6)
    (hv : Value.okWide P w r b0 t v) (h : DataW.Trod enc P w base spare held t v d p) : ∃ c : Nat → Int, v = cV c := by
  obtain ⟨cs, rfl, hsz⟩ := okWide_struct he hv
  obtain ⟨fuel, h⟩ := h
  obtain ⟨xs, m, _, _, hcl, hxl, hg⟩ := DataW.trod_struct he h
  simp only [Value.cells] at hcl hg
  have hl : cs.toList.length = 6 := by rw [Array.length_toList]; exact hsz.trans hC
  have each : ∀ j, j < 6 → ∃ v : Int, cs.toList[j]? = some (.int .i64 v) := by
    intro j hj
    have hj' : j < fs.size := by omega
    have hfj : fs[j]? = some fs[j] := Array.getElem?_eq_getElem hj'
    obtain ⟨o, c, u⟩ := intFieldsB_at fs.toList 0 hf j fs[j] (by simp)
    have g := hg j _ hfj
    have hjc : j < cs.toList.length := by omega
    have hjx : j < xs.length := by omega
    rw [o, c, Nat.zero_add, take_one hjc, List.getElem?_eq_getElem hjx] at g
    obtain ⟨v, hv, _, hw⟩ := DataW.trod_int u g
    simp only [List.cons.injEq, and_true] at hv
    exact ⟨v, by rw [List.getElem?_eq_getElem hjc, hv]⟩
  obtain ⟨c, hc⟩ := choose_lt each
  refine ⟨c, ?_⟩
  unfold cV
  congr 1
  apply Array.ext'
  apply List.ext_getElem?
  intro j
  by_cases hj : j < 6
  · rw [hc j hj]
    rcases (show j = 0 ∨ j = 1 ∨ j = 2 ∨ j = 3 ∨ j = 4 ∨ j = 5 by omega) with rfl | rfl | rfl | rfl | rfl | rfl <;> rfl
  · rw [List.getElem?_eq_none (by omega), List.getElem?_eq_none (by simp; omega)]
end
end Go.Proofs.YtplhbklfaokjbaaDoor
