/- Arguments opened: climbs, joints, dogs, what a law's third argument holds. -/
import Derived.Test.YtbjdojcenflliaaRow
import Derived.Test.YtbjdojcenflliaaLdr
import Derived.Test.YtbjdojcenflliaaSlices
import Derived.ChangeSlices
import Derived.OpenShut
import Derived.ChangeMaps5
import Derived.ChangeArms
import Derived.Deep.SlicePairs
namespace Go.Proofs.Ytbjdojcenflliaa
open Go.ChangeShapes Go.WideShapes Go.ChangeAt Go.RowKit Go.Joins Go.Deep

theorem cellsInt3 : Try.prog.cellsOf 3 = 1 := by kernel_rfl
theorem cellsClimb : Try.prog.cellsOf 23 = 6 := by kernel_rfl
theorem cellsJoint : Try.prog.cellsOf 53 = 2 := by kernel_rfl
theorem array6 {α : Type} {cs : Array α} (h : cs.size = 6) : ∃ c0 c1 c2 c3 c4 c5, cs = #[c0, c1, c2, c3, c4, c5] := by
  obtain ⟨l⟩ := cs
  match l, h with
  | [c0, c1, c2, c3, c4, c5], _ => exact ⟨c0, c1, c2, c3, c4, c5, rfl⟩
section
variable {H : Type} {enc : TypeId × Value → H} {P : Program} {w : World} {base : Nat} {spare : Nat → Bool} {held : Bool}
theorem trod_struct6 {t : TypeId} {f0 f1 f2 f3 f4 f5 : Field} {fuel : Nat} {cs : List Value} {x : DataW H × List MemPlace} (ht : P.underlying t = some (.struct #[f0, f1, f2, f3, f4, f5])) (h : DataW.trod enc P w base spare held fuel t cs = some x) :
    ∃ y0 y1 y2 y3 y4 y5 n, DataW.trod enc P w base spare held n f0.type ((cs.drop f0.offset).take (P.cellsOf f0.type)) = some y0 ∧
      DataW.trod enc P w base spare held n f1.type ((cs.drop f1.offset).take (P.cellsOf f1.type)) = some y1 ∧ DataW.trod enc P w base spare held n f2.type ((cs.drop f2.offset).take (P.cellsOf f2.type)) = some y2 ∧
      DataW.trod enc P w base spare held n f3.type ((cs.drop f3.offset).take (P.cellsOf f3.type)) = some y3 ∧ DataW.trod enc P w base spare held n f4.type ((cs.drop f4.offset).take (P.cellsOf f4.type)) = some y4 ∧
      DataW.trod enc P w base spare held n f5.type ((cs.drop f5.offset).take (P.cellsOf f5.type)) = some y5 := by
  obtain ⟨xs, n, _, rfl, hl, hlen, hf⟩ := DataW.trod_struct ht h
  match xs, hlen with
  | [y0, y1, y2, y3, y4, y5], _ => exact ⟨y0, y1, y2, y3, y4, y5, n, by simpa using hf 0 f0 rfl, by simpa using hf 1 f1 rfl, by simpa using hf 2 f2 rfl, by simpa using hf 3 f3 rfl, by simpa using hf 4 f4 rfl, by simpa using hf 5 f5 rfl⟩
theorem open_climb {t : TypeId} {f0 f1 f2 f3 f4 f5 : Field} {v : Value} {d : DataW H} {p : List MemPlace} {r : Reach} {b0 : Nat} (ht : P.underlying t = some (.struct #[f0, f1, f2, f3, f4, f5])) (hone : Go.Deep.oneCellFields P #[f0, f1, f2, f3, f4, f5] = true)
    (u0 : P.underlying f0.type = some (.int .i64)) (u1 : P.underlying f1.type = some (.int .i64)) (u2 : P.underlying f2.type = some (.int .i64)) (u3 : P.underlying f3.type = some (.int .i64)) (u4 : P.underlying f4.type = some (.int .i64)) (u5 : P.underlying f5.type = some (.int .i64)) (hC : P.cellsOf t = 6)
    (hv : Value.okWide P w r b0 t v) (h : DataW.Trod enc P w base spare held t v d p) :
    ∃ x0 x1 x2 x3 x4 x5 : Int, v = .agg #[.int .i64 x0, .int .i64 x1, .int .i64 x2, .int .i64 x3, .int .i64 x4, .int .i64 x5] := by
  obtain ⟨cs, rfl, hsz⟩ := okWide_struct ht hv
  obtain ⟨c0, c1, c2, c3, c4, c5, rfl⟩ := array6 (hsz.trans hC)
  obtain ⟨fuel, hf⟩ := h
  obtain ⟨y0, y1, y2, y3, y4, y5, n, h0, h1, h2, h3, h4, h5⟩ := trod_struct6 ht hf
  obtain ⟨o0, k0⟩ := hone_of hone 0 f0 rfl
  obtain ⟨o1, k1⟩ := hone_of hone 1 f1 rfl
  obtain ⟨o2, k2⟩ := hone_of hone 2 f2 rfl
  obtain ⟨o3, k3⟩ := hone_of hone 3 f3 rfl
  obtain ⟨o4, k4⟩ := hone_of hone 4 f4 rfl
  obtain ⟨o5, k5⟩ := hone_of hone 5 f5 rfl
  obtain ⟨x0, e0, _, _⟩ := DataW.trod_int u0 (show _ = some y0 from by simpa [Value.cells, o0, k0] using h0)
  obtain ⟨x1, e1, _, _⟩ := DataW.trod_int u1 (show _ = some y1 from by simpa [Value.cells, o1, k1] using h1)
  obtain ⟨x2, e2, _, _⟩ := DataW.trod_int u2 (show _ = some y2 from by simpa [Value.cells, o2, k2] using h2)
  obtain ⟨x3, e3, _, _⟩ := DataW.trod_int u3 (show _ = some y3 from by simpa [Value.cells, o3, k3] using h3)
  obtain ⟨x4, e4, _, _⟩ := DataW.trod_int u4 (show _ = some y4 from by simpa [Value.cells, o4, k4] using h4)
  obtain ⟨x5, e5, _, _⟩ := DataW.trod_int u5 (show _ = some y5 from by simpa [Value.cells, o5, k5] using h5)
  simp at e0 e1 e2 e3 e4 e5
  subst e0 e1 e2 e3 e4 e5
  exact ⟨x0, x1, x2, x3, x4, x5, rfl⟩
/-- Numbers out of a cell's reading. -/
theorem dogs_of {t e : TypeId} {fuel : Nat} {v : Value} {x : DataW H × List MemPlace} (ht : P.underlying t = some (.slice e)) (he : P.underlying e = some (.int .i64)) (ce : P.cellsOf e = 1)
    (h : DataW.trod enc P w base spare held fuel t [v] = some x) : ∃ (a : Option Addr) (m cap : Nat) (f : Nat → Int), v = .slice a m cap ∧ m ≤ cap ∧ cap ≤ 9223372036854775807 ∧ DAt w a m f ∧ ∀ k, k < m → (Lit.int .i64 (f k)).wf = true := by
  rcases open_ints ht he ce h with ⟨h0, _⟩ | ⟨a', len', cap', zs, h0, hb, hl, hm, hlen, _, hc, hw⟩
  · simp at h0
    subst h0
    exact ⟨none, 0, 0, fun _ => 0, rfl, Nat.le_refl _, by omega, fun k hk => absurd hk (by omega), fun k hk => absurd hk (by omega)⟩
  · simp at h0
    subst h0
    have hcap : cap' ≤ 9223372036854775807 := by unfold maxLen at hm; omega
    have hlz : len' ≤ zs.length := by rw [hlen]; split <;> omega
    refine ⟨some a', len', cap', fun i => zs.getD i 0, rfl, hl, hcap, fun k hk => ?_, fun k hk => ?_⟩
    · have g0 := hc k (by omega)
      obtain ⟨b, off, sp⟩ := a'
      have gz := hc 0 (by omega)
      have hsp : sp = none := by simpa [Addr.add] using World.cell?_spot gz
      subst hsp
      rw [add_plain] at g0
      exact ⟨b, off, rfl, World.block_lt_of_cell? w _ g0, g0⟩
    · refine hw _ ?_
      have hz : k < zs.length := by omega
      have : zs.getD k 0 = zs[k] := by simp [List.getD, hz]
      show zs.getD k 0 ∈ zs
      rw [this]
      exact List.getElem_mem hz
theorem open_dogs {r : Reach} {b0 : Nat} {t e : TypeId} {v : Value} {d : DataW H} {p : List MemPlace} (ht : P.underlying t = some (.slice e)) (he : P.underlying e = some (.int .i64)) (ce : P.cellsOf e = 1)
    (hv : Value.okWide P w r b0 t v) (h : DataW.Trod enc P w base spare held t v d p) : ∃ (a : Option Addr) (m cap : Nat) (f : Nat → Int), v = .slice a m cap ∧ m ≤ cap ∧ cap ≤ 9223372036854775807 ∧ DAt w a m f ∧ ∀ k, k < m → (Lit.int .i64 (f k)).wf = true := by
  obtain ⟨a, len, cap, rfl⟩ := okWide_slice ht hv
  obtain ⟨fuel, h⟩ := h
  exact dogs_of ht he ce (by simpa [Value.cells] using h)
theorem open_joints {r : Reach} {b0 : Nat} {t e : TypeId} {f0 f1 : Field} {v : Value} {d : DataW H} {p : List MemPlace} (ht : P.underlying t = some (.slice e)) (he : P.underlying e = some (.struct #[f0, f1])) (ce : P.cellsOf e = 2) (o0 : f0.offset = 0) (o1 : f1.offset = 1) (c0 : P.cellsOf f0.type = 1) (c1 : P.cellsOf f1.type = 1) (u0 : P.underlying f0.type = some (.int .i64)) (u1 : P.underlying f1.type = some .bool)
    (hv : Value.okWide P w r b0 t v) (h : DataW.Trod enc P w base spare held t v d p) :
    ∃ (a : Option Addr) (m cap : Nat) (hg : Nat → Int) (sd : Nat → Bool), v = .slice a m cap ∧ m ≤ cap ∧ cap ≤ 9223372036854775807 ∧ JtAt w a m hg sd := by
  obtain ⟨a, len, cap, rfl⟩ := okWide_slice ht hv
  obtain ⟨fuel, h⟩ := h
  rcases open_slice ht h with ⟨h0, _⟩ | ⟨a', len', cap', m, n, D, Pl, h0, hb, hl, hm, hmm, _, hx⟩
  · simp [Value.cells] at h0
    obtain ⟨rfl, rfl, rfl⟩ := h0
    exact ⟨none, 0, 0, fun _ => 0, fun _ => false, rfl, Nat.le_refl _, by omega, fun k hk => absurd hk (by omega)⟩
  · simp [Value.cells] at h0
    obtain ⟨rfl, rfl, rfl⟩ := h0
    have hlm : len ≤ m := by rw [hmm]; split <;> omega
    have each : ∀ i, i < len → ∃ q : Int × Bool, w.cell? (a'.add (i * 2)) = some (.int .i64 q.1) ∧ w.cell? (a'.add (i * 2 + 1)) = some (.bool q.2) := by
      intro i hi
      obtain ⟨cs', h1, h2⟩ := hx i (by omega)
      rw [ce] at h1
      obtain ⟨_, hlen, hcell⟩ := World.cells?_some h1
      obtain ⟨xs, k, hk, hxy, _, hxl, hf⟩ := DataW.trod_struct he h2
      match xs, hxl, cs', hlen with
      | [y0, y1], _, [v0, v1], _ =>
        have g0 := hf 0 f0 rfl
        have g1 := hf 1 f1 rfl
        simp [o0, o1, c0, c1] at g0 g1
        have e0 := hcell 0 (by omega)
        have e1 := hcell 1 (by omega)
        rw [add_add] at e0 e1
        obtain ⟨n0, q0, _, _⟩ := DataW.trod_int u0 g0
        obtain ⟨n1, q1, _⟩ := DataW.trod_bool u1 g1
        simp at q0 q1
        subst q0 q1
        exact ⟨(n0, n1), by simpa using e0, by simpa using e1⟩
    obtain ⟨q, hq⟩ := choose_lt each
    refine ⟨some a', len, cap, fun i => (q i).1, fun i => (q i).2, rfl, hl, by unfold maxLen at hm; omega, fun k hk => ?_⟩
    obtain ⟨g0, g1⟩ := hq k hk
    obtain ⟨b, off, sp⟩ := a'
    have z0 := (hq 0 (by omega)).1
    have hsp : sp = none := by simpa [Addr.add] using World.cell?_spot z0
    subst hsp
    rw [add_plain] at g0 g1
    exact ⟨b, off, rfl, World.block_lt_of_cell? w _ g0, g0, by rw [← Nat.add_assoc] at g1; exact g1⟩
theorem open_claim {r : Reach} {b0 : Nat} {t e : TypeId} {f0 f1 f2 : Field} {v : Value} {d : DataW H} {p : List MemPlace} (hs : P.underlying t = some (.struct #[f0, f1, f2])) (hone : Go.Deep.oneCellFields P #[f0, f1, f2] = true) (hC : P.cellsOf t = 3)
    (t0 : P.underlying f0.type = some (.slice e)) (t1 : P.underlying f1.type = some (.slice e)) (t2 : P.underlying f2.type = some (.int .i64)) (he : P.underlying e = some (.int .i64)) (ce : P.cellsOf e = 1)
    (hv : Value.okWide P w r b0 t v) (h : DataW.Trod enc P w base spare held t v d p) :
    ∃ (a : Option Addr) (m cap : Nat) (f : Nat → Int) (a' : Option Addr) (m' cap' : Nat) (f' : Nat → Int) (z : Int), v = .agg #[.slice a m cap, .slice a' m' cap', .int .i64 z] ∧ m ≤ 9223372036854775807 ∧ m' ≤ 9223372036854775807 ∧ DAt w a m f ∧ DAt w a' m' f' ∧ (Lit.int .i64 z).wf = true := by
  obtain ⟨c0, c1, c2, y0, y1, y2, n, rfl, _, _, h0, h1, h2⟩ := open_agg3 hs hone hC hv h
  obtain ⟨a, m, cap, f, rfl, q0, q1, hd, _⟩ := dogs_of t0 he ce h0
  obtain ⟨a', m', cap', f', rfl, q0', q1', hd', _⟩ := dogs_of t1 he ce h1
  obtain ⟨z, e2, _, wz⟩ := DataW.trod_int t2 h2
  simp at e2
  subst e2
  exact ⟨a, m, cap, f, a', m', cap', f', z, rfl, by omega, by omega, hd, hd', wz⟩
end
end Go.Proofs.Ytbjdojcenflliaa
