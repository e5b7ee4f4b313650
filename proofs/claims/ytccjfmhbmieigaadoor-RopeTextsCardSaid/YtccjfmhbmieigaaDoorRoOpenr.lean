/- Arguments opened: arrays and structs of integers by value, slices of structs of two integers, a struct of an integer and such a slice. -/
import Derived.Test.YtccjfmhbmieigaaDoorRow
import Derived.Test.YtccjfmhbmieigaaDoorSlices
import Derived.Test.YtccjfmhbmieigaaDoorRoPairs
namespace Go.Proofs.YtccjfmhbmieigaaDoor.Ro
open Go.Proofs.YtccjfmhbmieigaaDoor
open Go.ChangeShapes Go.WideShapes Go.ChangeAt Go.RowKit Go.Joins Go.Deep

theorem cellsInt : Tryd.prog.cellsOf 3 = 1 := by kernel_rfl
theorem cellsTackle : Tryd.prog.cellsOf 68 = 2 := by kernel_rfl
theorem cellsUse : Tryd.prog.cellsOf 75 = 2 := by kernel_rfl
theorem cellsArr2 : Tryd.prog.cellsOf 110 = 2 := by kernel_rfl
section
variable {H : Type} {enc : TypeId × Value → H} {P : Program} {w : World} {base : Nat} {spare : Nat → Bool} {held : Bool}
theorem open_arr2 {t e : TypeId} {v : Value} {d : DataW H} {p : List MemPlace} {r : Reach} {b0 : Nat} (ht : P.underlying t = some (.array 2 e)) (he : P.underlying e = some (.int .i64)) (hC : P.cellsOf t = 2) (hCe : P.cellsOf e = 1)
    (hv : Value.okWide P w r b0 t v) (h : DataW.Trod enc P w base spare held t v d p) :
    ∃ x0 x1 : Int, v = .agg #[.int .i64 x0, .int .i64 x1] ∧ (Lit.int .i64 x0).wf = true ∧ (Lit.int .i64 x1).wf = true := by
  simp only [Value.okWide, ht] at hv
  obtain ⟨cs, rfl, hsz, _⟩ := hv
  obtain ⟨l⟩ := cs
  match l, hsz.trans hC with
  | [c0, c1], _ =>
    obtain ⟨fuel, hf⟩ := h
    obtain ⟨xs, m, _, _, _, hxl, hg⟩ := DataW.trod_array ht hf
    match xs, hxl with
    | [y0, y1], _ =>
      have g0 := hg 0 (by omega)
      have g1 := hg 1 (by omega)
      simp [hCe, Value.cells] at g0 g1
      obtain ⟨x0, e0, _, w0⟩ := DataW.trod_int he g0
      obtain ⟨x1, e1, _, w1⟩ := DataW.trod_int he g1
      simp at e0 e1
      subst e0 e1
      exact ⟨x0, x1, rfl, w0, w1⟩
theorem open_arr3 {t e : TypeId} {v : Value} {d : DataW H} {p : List MemPlace} {r : Reach} {b0 : Nat} (ht : P.underlying t = some (.array 3 e)) (he : P.underlying e = some (.int .i64)) (hC : P.cellsOf t = 3) (hCe : P.cellsOf e = 1)
    (hv : Value.okWide P w r b0 t v) (h : DataW.Trod enc P w base spare held t v d p) :
    ∃ x0 x1 x2 : Int, v = .agg #[.int .i64 x0, .int .i64 x1, .int .i64 x2] ∧ (Lit.int .i64 x0).wf = true ∧ (Lit.int .i64 x1).wf = true ∧ (Lit.int .i64 x2).wf = true := by
  simp only [Value.okWide, ht] at hv
  obtain ⟨cs, rfl, hsz, _⟩ := hv
  obtain ⟨l⟩ := cs
  match l, hsz.trans hC with
  | [c0, c1, c2], _ =>
    obtain ⟨fuel, hf⟩ := h
    obtain ⟨xs, m, _, _, _, hxl, hg⟩ := DataW.trod_array ht hf
    match xs, hxl with
    | [y0, y1, y2], _ =>
      have g0 := hg 0 (by omega)
      have g1 := hg 1 (by omega)
      have g2 := hg 2 (by omega)
      simp [hCe, Value.cells] at g0 g1 g2
      obtain ⟨x0, e0, _, w0⟩ := DataW.trod_int he g0
      obtain ⟨x1, e1, _, w1⟩ := DataW.trod_int he g1
      obtain ⟨x2, e2, _, w2⟩ := DataW.trod_int he g2
      simp at e0 e1 e2
      subst e0 e1 e2
      exact ⟨x0, x1, x2, rfl, w0, w1, w2⟩
theorem open_arr4 {t e : TypeId} {v : Value} {d : DataW H} {p : List MemPlace} {r : Reach} {b0 : Nat} (ht : P.underlying t = some (.array 4 e)) (he : P.underlying e = some (.int .i64)) (hC : P.cellsOf t = 4) (hCe : P.cellsOf e = 1)
    (hv : Value.okWide P w r b0 t v) (h : DataW.Trod enc P w base spare held t v d p) :
    ∃ x0 x1 x2 x3 : Int, v = .agg #[.int .i64 x0, .int .i64 x1, .int .i64 x2, .int .i64 x3] ∧ (Lit.int .i64 x0).wf = true ∧ (Lit.int .i64 x1).wf = true ∧ (Lit.int .i64 x2).wf = true ∧ (Lit.int .i64 x3).wf = true := by
  simp only [Value.okWide, ht] at hv
  obtain ⟨cs, rfl, hsz, _⟩ := hv
  obtain ⟨l⟩ := cs
  match l, hsz.trans hC with
  | [c0, c1, c2, c3], _ =>
    obtain ⟨fuel, hf⟩ := h
    obtain ⟨xs, m, _, _, _, hxl, hg⟩ := DataW.trod_array ht hf
    match xs, hxl with
    | [y0, y1, y2, y3], _ =>
      have g0 := hg 0 (by omega)
      have g1 := hg 1 (by omega)
      have g2 := hg 2 (by omega)
      have g3 := hg 3 (by omega)
      simp [hCe, Value.cells] at g0 g1 g2 g3
      obtain ⟨x0, e0, _, w0⟩ := DataW.trod_int he g0
      obtain ⟨x1, e1, _, w1⟩ := DataW.trod_int he g1
      obtain ⟨x2, e2, _, w2⟩ := DataW.trod_int he g2
      obtain ⟨x3, e3, _, w3⟩ := DataW.trod_int he g3
      simp at e0 e1 e2 e3
      subst e0 e1 e2 e3
      exact ⟨x0, x1, x2, x3, rfl, w0, w1, w2, w3⟩
theorem open_val2 {t : TypeId} {f0 f1 : Field} {v : Value} {d : DataW H} {p : List MemPlace} {r : Reach} {b0 : Nat} (ht : P.underlying t = some (.struct #[f0, f1])) (ho : Go.Deep.oneCellFields P #[f0, f1] = true)
    (h0 : P.underlying f0.type = some (.int .i64)) (h1 : P.underlying f1.type = some (.int .i64)) (hC : P.cellsOf t = 2)
    (hv : Value.okWide P w r b0 t v) (h : DataW.Trod enc P w base spare held t v d p) :
    ∃ x0 x1 : Int, v = .agg #[.int .i64 x0, .int .i64 x1] ∧ (Lit.int .i64 x0).wf = true ∧ (Lit.int .i64 x1).wf = true := by
  obtain ⟨c0, c1, y0, y1, m, rfl, _, _, hy0, hy1⟩ := open_agg2 ht ho hC hv h
  obtain ⟨x0, e0, _, w0⟩ := DataW.trod_int h0 hy0
  obtain ⟨x1, e1, _, w1⟩ := DataW.trod_int h1 hy1
  simp at e0 e1
  subst e0 e1
  exact ⟨x0, x1, rfl, w0, w1⟩
theorem open_val3 {t : TypeId} {f0 f1 f2 : Field} {v : Value} {d : DataW H} {p : List MemPlace} {r : Reach} {b0 : Nat} (ht : P.underlying t = some (.struct #[f0, f1, f2])) (ho : Go.Deep.oneCellFields P #[f0, f1, f2] = true)
    (h0 : P.underlying f0.type = some (.int .i64)) (h1 : P.underlying f1.type = some (.int .i64)) (h2 : P.underlying f2.type = some (.int .i64)) (hC : P.cellsOf t = 3)
    (hv : Value.okWide P w r b0 t v) (h : DataW.Trod enc P w base spare held t v d p) :
    ∃ x0 x1 x2 : Int, v = .agg #[.int .i64 x0, .int .i64 x1, .int .i64 x2] ∧ (Lit.int .i64 x0).wf = true ∧ (Lit.int .i64 x1).wf = true ∧ (Lit.int .i64 x2).wf = true := by
  obtain ⟨c0, c1, c2, y0, y1, y2, m, rfl, _, _, hy0, hy1, hy2⟩ := open_agg3 ht ho hC hv h
  obtain ⟨x0, e0, _, w0⟩ := DataW.trod_int h0 hy0
  obtain ⟨x1, e1, _, w1⟩ := DataW.trod_int h1 hy1
  obtain ⟨x2, e2, _, w2⟩ := DataW.trod_int h2 hy2
  simp at e0 e1 e2
  subst e0 e1 e2
  exact ⟨x0, x1, x2, rfl, w0, w1, w2⟩

theorem getD_range_map {α : Type} (f : Nat → α) (d : α) {n i : Nat} (h : i < n) : ((List.range n).map f).getD i d = f i := by
  simp [List.getD_eq_getElem?_getD, h]
theorem prs_of {b off len cap : Nat} {V : Nat → Nat → Int} (hm : len ≤ maxLen) (hb : b < w.heap.size)
    (hc : ∀ i, i < len → ∀ j, j < 2 → w.cell? ⟨b, off + i * 2 + j, none⟩ = some (.int .i64 (V i j)) ∧ (Lit.int .i64 (V i j)).wf = true) :
    ∃ ps : List (Int × Int), Prs w w.heap.size (.slice (some ⟨b, off, none⟩) len cap) ps ∧ ∀ i, i < ps.length → (Lit.int .i64 (ps.getD i (0, 0)).1).wf = true ∧ (Lit.int .i64 (ps.getD i (0, 0)).2).wf = true := by
  refine ⟨(List.range len).map fun i => (V i 0, V i 1), .inr ⟨b, off, cap, by simp, hb, by simp; unfold maxLen at hm; omega, fun i hi => ?_⟩, fun i hi => ?_⟩
  · simp only [List.length_map, List.length_range] at hi
    rw [getD_range_map _ _ hi]
    exact ⟨(hc i hi 0 (by omega)).1, (hc i hi 1 (by omega)).1⟩
  · simp only [List.length_map, List.length_range] at hi
    rw [getD_range_map _ _ hi]
    exact ⟨(hc i hi 0 (by omega)).2, (hc i hi 1 (by omega)).2⟩
/-- A slice of structs of two integers. -/
theorem open_prs {r : Reach} {b0 : Nat} {t e : TypeId} {fs : Array Field} {v : Value} {d : DataW H} {p : List MemPlace} (ht : P.underlying t = some (.slice e)) (he : P.underlying e = some (.struct fs)) (ce : P.cellsOf e = 2) (hs : fs.size = 2) (hf : intFieldsB P 0 fs.toList = true)
    (hv : Value.okWide P w r b0 t v) (h : DataW.Trod enc P w base spare held t v d p) :
    ∃ ps : List (Int × Int), Prs w w.heap.size v ps ∧ ∀ i, i < ps.length → (Lit.int .i64 (ps.getD i (0, 0)).1).wf = true ∧ (Lit.int .i64 (ps.getD i (0, 0)).2).wf = true := by
  rcases open_rows (k := 2) ht he (by omega) ce hs hf hv h with ⟨a, cap, rfl⟩ | ⟨b, off, len, cap, V, rfl, h0, hm, hb, hc⟩
  · exact ⟨[], .inl ⟨a, cap, rfl, rfl⟩, fun i hi => absurd hi (by simp)⟩
  · exact prs_of hm hb hc
/-- .. in a struct's field. -/
theorem open_prsC {t e : TypeId} {fs : Array Field} {c : Value} {n : Nat} {y : DataW H × List MemPlace} (ht : P.underlying t = some (.slice e)) (he : P.underlying e = some (.struct fs)) (ce : P.cellsOf e = 2) (hs : fs.size = 2) (hf : intFieldsB P 0 fs.toList = true)
    (h : DataW.trod enc P w base spare held n t [c] = some y) :
    ∃ ps : List (Int × Int), Prs w w.heap.size c ps ∧ ∀ i, i < ps.length → (Lit.int .i64 (ps.getD i (0, 0)).1).wf = true ∧ (Lit.int .i64 (ps.getD i (0, 0)).2).wf = true := by
  rcases open_slice ht h with ⟨h0, _⟩ | ⟨a', len, cap, m, k, D, Pl, h0, hb, hl, hm, hmm, _, hx⟩
  · simp at h0; subst h0
    exact ⟨[], .inl ⟨_, _, rfl, rfl⟩, fun i hi => absurd hi (by simp)⟩
  · simp at h0; subst h0
    rcases Nat.eq_zero_or_pos len with rfl | hpos
    · exact ⟨[], .inl ⟨_, _, rfl, rfl⟩, fun i hi => absurd hi (by simp)⟩
    have hlm : len ≤ m := by rw [hmm]; split <;> omega
    have each : ∀ i, i < len → ∃ V : Nat → Int, ∀ j, j < 2 → w.cell? ((a'.add (i * 2)).add j) = some (.int .i64 (V j)) ∧ (Lit.int .i64 (V j)).wf = true := by
      intro i hi
      obtain ⟨cs, h1, h2⟩ := hx i (by omega)
      rw [ce] at h1
      exact open_fields he hs hf h1 h2
    obtain ⟨V, hV⟩ := choose_lt each
    have g0 := (hV 0 hpos 0 (by omega)).1
    obtain ⟨b, off, sp⟩ := a'
    have hsp : sp = none := by simpa [Addr.add] using World.cell?_spot g0
    subst hsp
    refine prs_of (V := V) (by omega) (World.block_lt_of_cell? w _ (by simpa [add_plain] using g0)) fun i hi j hj => ?_
    have := hV i hi j hj
    simpa [add_plain] using this
end
end Go.Proofs.YtccjfmhbmieigaaDoor.Ro
