/- Arguments opened: slices whose elements are structs of integers alone, of any number of fields; over any program. -/
import Derived.Deep.Slices
import Derived.WideShapes
import Derived.ChangeShapes
import Derived.ChangeArms
import Derived.DataReads
namespace Go.Proofs.Ytbjdojcenflliaa
open Go.ChangeShapes Go.WideShapes Go.Deep

/-- Every field of a struct is an int, and they lie one behind the other. -/
def intFieldsB (P : Program) : Nat → List Field → Bool
  | _, [] => true
  | n, f :: fs => f.offset == n && P.cellsOf f.type == 1 && (match P.underlying f.type with | some (.int .i64) => true | _ => false) && intFieldsB P (n + 1) fs

section
variable {H : Type} {enc : TypeId × Value → H} {P : Program} {w : World} {base : Nat} {spare : Nat → Bool} {held : Bool}

theorem intFieldsB_at : ∀ (fs : List Field) (n : Nat), intFieldsB P n fs = true → ∀ j f, fs[j]? = some f → f.offset = n + j ∧ P.cellsOf f.type = 1 ∧ P.underlying f.type = some (.int .i64)
  | [], _, _, _, _, h => by simp at h
  | g :: fs, n, h, j, f, hj => by
    unfold intFieldsB at h
    simp only [Bool.and_eq_true, beq_iff_eq] at h
    obtain ⟨⟨⟨h1, h2⟩, h3⟩, h4⟩ := h
    cases j with
    | zero =>
      simp only [List.getElem?_cons_zero, Option.some.injEq] at hj
      subst hj
      refine ⟨h1, h2, ?_⟩
      split at h3
      · assumption
      · cases h3
    | succ j =>
      have := intFieldsB_at fs (n + 1) h4 j f (by simpa using hj)
      exact ⟨by omega, this.2⟩

theorem take_one {α : Type} {l : List α} {j : Nat} (h : j < l.length) : (l.drop j).take 1 = [l[j]] := by
  rw [List.drop_eq_getElem_cons h]; rfl

/-- One element's cells are integers. -/
theorem open_fields {e : TypeId} {fs : Array Field} {k n : Nat} {a : Addr} {cs : List Value} {x : DataW H × List MemPlace} (he : P.underlying e = some (.struct fs)) (hs : fs.size = k) (hf : intFieldsB P 0 fs.toList = true)
    (h1 : w.cells? base a k = some cs) (h2 : DataW.trod enc P w base spare held n e cs = some x) :
    ∃ V : Nat → Int, ∀ j, j < k → w.cell? (a.add j) = some (.int .i64 (V j)) ∧ (Lit.int .i64 (V j)).wf = true := by
  obtain ⟨_, hlen, hcell⟩ := World.cells?_some h1
  obtain ⟨xs, m, _, _, hcl, hxl, hg⟩ := DataW.trod_struct he h2
  have each : ∀ j, j < k → ∃ v : Int, w.cell? (a.add j) = some (.int .i64 v) ∧ (Lit.int .i64 v).wf = true := by
    intro j hj
    have hj' : j < fs.size := by omega
    have hfj : fs[j]? = some fs[j] := Array.getElem?_eq_getElem hj'
    obtain ⟨o, c, u⟩ := intFieldsB_at fs.toList 0 hf j fs[j] (by simp)
    have g := hg j _ hfj
    have hjc : j < cs.length := by omega
    have hjx : j < xs.length := by omega
    rw [o, c, Nat.zero_add, take_one hjc, List.getElem?_eq_getElem hjx] at g
    obtain ⟨v, hv, _, hw⟩ := DataW.trod_int u g
    have hc := hcell j (by omega)
    rw [List.getElem?_eq_getElem hjc] at hc
    simp only [List.cons.injEq, and_true] at hv
    rw [hv] at hc
    exact ⟨v, hc, hw⟩
  exact choose_lt each

/-- A slice of such structs: without an element, or with all its cells. -/
theorem open_rows {r : Reach} {b0 : Nat} {t e : TypeId} {fs : Array Field} {k : Nat} {v : Value} {d : DataW H} {p : List MemPlace} (ht : P.underlying t = some (.slice e)) (he : P.underlying e = some (.struct fs)) (hk : 0 < k) (ce : P.cellsOf e = k) (hs : fs.size = k) (hf : intFieldsB P 0 fs.toList = true)
    (hv : Value.okWide P w r b0 t v) (h : DataW.Trod enc P w base spare held t v d p) :
    (∃ a cap, v = .slice a 0 cap) ∨ ∃ (b off len cap : Nat) (V : Nat → Nat → Int), v = .slice (some ⟨b, off, none⟩) len cap ∧ 0 < len ∧ len ≤ maxLen ∧ b < w.heap.size ∧
      ∀ i, i < len → ∀ j, j < k → w.cell? ⟨b, off + i * k + j, none⟩ = some (.int .i64 (V i j)) ∧ (Lit.int .i64 (V i j)).wf = true := by
  obtain ⟨a, len, cap, rfl⟩ := okWide_slice ht hv
  obtain ⟨fuel, h⟩ := h
  rcases open_slice ht h with ⟨h0, _⟩ | ⟨a', len', cap', m, n, D, Pl, h0, hb, hl, hm, hmm, _, hx⟩
  · simp [Value.cells] at h0
    obtain ⟨rfl, rfl, rfl⟩ := h0
    exact .inl ⟨_, _, rfl⟩
  · simp [Value.cells] at h0
    obtain ⟨rfl, rfl, rfl⟩ := h0
    rcases Nat.eq_zero_or_pos len with rfl | hpos
    · exact .inl ⟨_, _, rfl⟩
    right
    have hlm : len ≤ m := by rw [hmm]; split <;> omega
    have each : ∀ i, i < len → ∃ V : Nat → Int, ∀ j, j < k → w.cell? ((a'.add (i * k)).add j) = some (.int .i64 (V j)) ∧ (Lit.int .i64 (V j)).wf = true := by
      intro i hi
      obtain ⟨cs, h1, h2⟩ := hx i (by omega)
      rw [ce] at h1
      exact open_fields he hs hf h1 h2
    obtain ⟨V, hV⟩ := choose_lt each
    have g0 := (hV 0 hpos 0 hk).1
    obtain ⟨b, off, sp⟩ := a'
    have hsp : sp = none := by simpa [Addr.add] using World.cell?_spot g0
    subst hsp
    refine ⟨b, off, len, cap, V, rfl, hpos, by omega, World.block_lt_of_cell? w _ (by simpa [add_plain] using g0), fun i hi j hj => ?_⟩
    have := hV i hi j hj
    simpa [add_plain] using this
end
end Go.Proofs.Ytbjdojcenflliaa
