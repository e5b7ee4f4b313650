/- Arguments opened: slices of items and of links. -/
import Derived.Test.YtkgfaemdgmmdkaaGreatDoorGxGen
import Derived.Test.YtkgfaemdgmmdkaaGreatDoorSlices
import Derived.Deep.SlicePairs
namespace Go.Proofs.YtkgfaemdgmmdkaaGreatDoor.Gx
open Go.Proofs.YtkgfaemdgmmdkaaGreatDoor
open Go.ChangeShapes Go.WideShapes Go.ChangeAt Go.RowKit Go.Joins Go.Deep
section
variable {H : Type} {enc : TypeId × Value → H} {P : Program} {w : World} {base : Nat} {spare : Nat → Bool} {held : Bool}
theorem open_links {r : Reach} {b0 : Nat} {t e : TypeId} {f0 f1 : Field} {v : Value} {d : DataW H} {p : List MemPlace} (ht : P.underlying t = some (.slice e)) (he : P.underlying e = some (.struct #[f0, f1])) (ce : P.cellsOf e = 2) (o0 : f0.offset = 0) (o1 : f1.offset = 1) (c0 : P.cellsOf f0.type = 1) (c1 : P.cellsOf f1.type = 1) (u0 : P.underlying f0.type = some .string) (u1 : P.underlying f1.type = some (.int .i64))
    (hv : Value.okWide P w r b0 t v) (h : DataW.Trod enc P w base spare held t v d p) :
    ∃ (a : Option Addr) (m cap : Nat) (lm : Nat → List UInt8) (lf : Nat → Int), v = .slice a m cap ∧ m ≤ cap ∧ cap ≤ 9223372036854775807 ∧ LkAt w a m lm lf ∧ Sht m lm := by
  obtain ⟨a, len, cap, rfl⟩ := okWide_slice ht hv
  obtain ⟨fuel, h⟩ := h
  rcases open_slice ht h with ⟨h0, _⟩ | ⟨a', len', cap', m, n, D, Pl, h0, hb, hl, hm, hmm, _, hx⟩
  · simp [Value.cells] at h0
    obtain ⟨rfl, rfl, rfl⟩ := h0
    exact ⟨none, 0, 0, fun _ => [], fun _ => 0, rfl, Nat.le_refl _, by omega, fun k hk => absurd hk (by omega), fun k hk => absurd hk (by omega)⟩
  · simp [Value.cells] at h0
    obtain ⟨rfl, rfl, rfl⟩ := h0
    have hlm : len ≤ m := by rw [hmm]; split <;> omega
    have each : ∀ i, i < len → ∃ q : List UInt8 × Int, w.cell? (a'.add (i * 2)) = some (.string (tx q.1)) ∧ w.cell? (a'.add (i * 2 + 1)) = some (.int .i64 q.2) ∧ q.1.length ≤ 9223372036854775807 := by
      intro i hi
      obtain ⟨cs', h1, h2⟩ := hx i (by omega)
      rw [ce] at h1
      obtain ⟨_, hlen, hcell⟩ := World.cells?_some h1
      obtain ⟨xs, k, hk, hxy, _, hxl, hf⟩ := DataW.trod_struct he h2
      match xs, hxl, cs', hlen with
      | [y0, y1], _, [v0, v1], _ =>
        have g0 := hf 0 f0 rfl
        have g1 := hf 1 f1 rfl
        simp [o0, o1, c0, c1] at g0 g1
        have e0 := hcell 0 (by omega)
        have e1 := hcell 1 (by omega)
        rw [add_add] at e0 e1
        obtain ⟨s0, q0, _, z0⟩ := DataW.trod_string u0 g0
        obtain ⟨n1, q1, _, _⟩ := DataW.trod_int u1 g1
        simp at q0 q1
        subst q0 q1
        exact ⟨(s0.data.toList, n1), by rw [tx_data]; simpa using e0, by simpa using e1, by rw [Array.length_toList]; exact z0⟩
    obtain ⟨q, hq⟩ := choose_lt each
    refine ⟨some a', len, cap, fun i => (q i).1, fun i => (q i).2, rfl, hl, by unfold maxLen at hm; omega, fun k hk => ?_, fun k hk => (hq k hk).2.2⟩
    obtain ⟨g0, g1, _⟩ := hq k hk
    obtain ⟨b, off, sp⟩ := a'
    have z0 := (hq 0 (by omega)).1
    have hsp : sp = none := by simpa [Addr.add] using World.cell?_spot z0
    subst hsp
    rw [add_plain] at g0 g1
    exact ⟨b, off, rfl, World.block_lt_of_cell? w _ g0, g0, by rw [← Nat.add_assoc] at g1; exact g1⟩
theorem open_items {r : Reach} {b0 : Nat} {t e : TypeId} {f0 f1 f2 f3 : Field} {v : Value} {d : DataW H} {p : List MemPlace} (ht : P.underlying t = some (.slice e)) (he : P.underlying e = some (.struct #[f0, f1, f2, f3])) (ce : P.cellsOf e = 4) (o0 : f0.offset = 0) (o1 : f1.offset = 1) (o2 : f2.offset = 2) (o3 : f3.offset = 3) (c0 : P.cellsOf f0.type = 1) (c1 : P.cellsOf f1.type = 1) (c2 : P.cellsOf f2.type = 1) (c3 : P.cellsOf f3.type = 1) (u0 : P.underlying f0.type = some .string) (u1 : P.underlying f1.type = some (.int .i64)) (u2 : P.underlying f2.type = some (.int .i64)) (u3 : P.underlying f3.type = some .string)
    (hv : Value.okWide P w r b0 t v) (h : DataW.Trod enc P w base spare held t v d p) :
    ∃ (a : Option Addr) (m cap : Nat) (gm : Nat → List UInt8) (gl gd : Nat → Int) (gb : Nat → List UInt8), v = .slice a m cap ∧ m ≤ cap ∧ cap ≤ 9223372036854775807 ∧ ItAt w a m gm gl gd gb ∧ Sht m gm ∧ Sht m gb := by
  obtain ⟨a, len, cap, rfl⟩ := okWide_slice ht hv
  obtain ⟨fuel, h⟩ := h
  rcases open_slice ht h with ⟨h0, _⟩ | ⟨a', len', cap', m, n, D, Pl, h0, hb, hl, hm, hmm, _, hx⟩
  · simp [Value.cells] at h0
    obtain ⟨rfl, rfl, rfl⟩ := h0
    exact ⟨none, 0, 0, fun _ => [], fun _ => 0, fun _ => 0, fun _ => [], rfl, Nat.le_refl _, by omega, fun k hk => absurd hk (by omega), fun k hk => absurd hk (by omega), fun k hk => absurd hk (by omega)⟩
  · simp [Value.cells] at h0
    obtain ⟨rfl, rfl, rfl⟩ := h0
    have hlm : len ≤ m := by rw [hmm]; split <;> omega
    have each : ∀ i, i < len → ∃ q : List UInt8 × Int × Int × List UInt8, w.cell? (a'.add (i * 4)) = some (.string (tx q.1)) ∧ w.cell? (a'.add (i * 4 + 1)) = some (.int .i64 q.2.1) ∧ w.cell? (a'.add (i * 4 + 2)) = some (.int .i64 q.2.2.1) ∧ w.cell? (a'.add (i * 4 + 3)) = some (.string (tx q.2.2.2)) ∧ q.1.length ≤ 9223372036854775807 ∧ q.2.2.2.length ≤ 9223372036854775807 := by
      intro i hi
      obtain ⟨cs', h1, h2⟩ := hx i (by omega)
      rw [ce] at h1
      obtain ⟨_, hlen, hcell⟩ := World.cells?_some h1
      obtain ⟨xs, k, hk, hxy, _, hxl, hf⟩ := DataW.trod_struct he h2
      match xs, hxl, cs', hlen with
      | [y0, y1, y2, y3], _, [v0, v1, v2, v3], _ =>
        have g0 := hf 0 f0 rfl
        have g1 := hf 1 f1 rfl
        have g2 := hf 2 f2 rfl
        have g3 := hf 3 f3 rfl
        simp [o0, o1, o2, o3, c0, c1, c2, c3] at g0 g1 g2 g3
        have e0 := hcell 0 (by omega)
        have e1 := hcell 1 (by omega)
        have e2 := hcell 2 (by omega)
        have e3 := hcell 3 (by omega)
        rw [add_add] at e0 e1 e2 e3
        obtain ⟨s0, q0, _, z0⟩ := DataW.trod_string u0 g0
        obtain ⟨n1, q1, _, _⟩ := DataW.trod_int u1 g1
        obtain ⟨n2, q2, _, _⟩ := DataW.trod_int u2 g2
        obtain ⟨s3, q3, _, z3⟩ := DataW.trod_string u3 g3
        simp at q0 q1 q2 q3
        subst q0 q1 q2 q3
        exact ⟨(s0.data.toList, n1, n2, s3.data.toList), by rw [tx_data]; simpa using e0, by simpa using e1, by simpa using e2, by rw [tx_data]; simpa using e3, by rw [Array.length_toList]; exact z0, by rw [Array.length_toList]; exact z3⟩
    obtain ⟨q, hq⟩ := choose_lt each
    refine ⟨some a', len, cap, fun i => (q i).1, fun i => (q i).2.1, fun i => (q i).2.2.1, fun i => (q i).2.2.2, rfl, hl, by unfold maxLen at hm; omega, fun k hk => ?_, fun k hk => (hq k hk).2.2.2.2.1, fun k hk => (hq k hk).2.2.2.2.2⟩
    obtain ⟨g0, g1, g2, g3, _⟩ := hq k hk
    obtain ⟨b, off, sp⟩ := a'
    have z0 := (hq 0 (by omega)).1
    have hsp : sp = none := by simpa [Addr.add] using World.cell?_spot z0
    subst hsp
    rw [add_plain] at g0 g1 g2 g3
    exact ⟨b, off, rfl, World.block_lt_of_cell? w _ g0, g0, by rw [← Nat.add_assoc] at g1; exact g1, by rw [← Nat.add_assoc] at g2; exact g2, by rw [← Nat.add_assoc] at g3; exact g3⟩
end
theorem cellsLink : Tryz.prog.cellsOf 35 = 2 := by kernel_rfl
theorem cellsItem : Tryz.prog.cellsOf 33 = 4 := by kernel_rfl
end Go.Proofs.YtkgfaemdgmmdkaaGreatDoor.Gx
