/- The table of the winds out of the row's condition; a slice of courses opened. -/
import Derived.Test.YtplhbklfaokjbaaDoorRow
import Derived.Test.YtplhbklfaokjbaaDoorSlices
import Derived.Test.YtplhbklfaokjbaaDoorCsay
import Derived.LaidMore
import Derived.OpenShut
import Derived.MakeChecks
import Derived.FnData
import Derived.LaidHandle
import Derived.Stop.Joined
namespace Go.Proofs.YtplhbklfaokjbaaDoor
open Go.ChangeShapes Go.WideShapes Go.ChangeAt Go.RowKit Go.Joins Go.Deep

abbrev laidL : List (String × DataW Unit) := [("steeplejack/stack.away", Rows.laid_steeplejack_stack_away)]
theorem gAway : Tryd.prog.globalNamed "steeplejack/stack.away" = some 0 := by kernel_rfl
theorem tAway : (Tryd.prog.globals[0]?).map (·.type) = some 88 := by kernel_rfl
theorem cellsTwo : Tryd.prog.cellsOf 58 = 2 := by kernel_rfl
theorem cellsOne : Tryd.prog.cellsOf 3 = 1 := by kernel_rfl
set_option maxRecDepth 100000 in
theorem pair_of {H : Type} {enc : TypeId × Value → H} {w : World} {base fuel : Nat} {spare : Nat → Bool} {held : Bool} {cs : List Value} {x : DataW H × List MemPlace} {a b : Int}
    (h : DataW.trod enc Tryd.prog w base spare held fuel 58 cs = some x) (hx : x.1 = .agg [.lit (.int .i64 a), .lit (.int .i64 b)]) : cs = [.int .i64 a, .int .i64 b] := by
  obtain ⟨ys, m, _, hy, hlen, hn, hel⟩ := DataW.trod_array Tryd.underlying58 h
  rw [cellsTwo] at hlen
  have h0 := hel 0 (by omega)
  have h1 := hel 1 (by omega)
  rw [cellsOne] at h0 h1
  match ys, hn, cs, hlen with
  | [y0, y1], _, [c0, c1], _ =>
    simp only [List.getElem?_cons_zero, List.getElem?_cons_succ, Nat.zero_mul, Nat.one_mul, List.drop_zero, List.drop_succ_cons, List.take_succ_cons, List.take_zero] at h0 h1
    obtain ⟨k0, e0, f0, _⟩ := DataW.trod_int Tryd.underlying3 h0
    obtain ⟨k1, e1, f1, _⟩ := DataW.trod_int Tryd.underlying3 h1
    subst hy
    rw [f0, f1] at hx
    simp at hx e0 e1
    rw [e0, e1, hx.1, hx.2]
theorem two_at {l : List Value} {n : Nat} {a b : Value} (h : (l.drop n).take 2 = [a, b]) : l[n]? = some a ∧ l[n + 1]? = some b := by
  have h0 := congrArg (fun x : List Value => x[0]?) h
  have h1 := congrArg (fun x : List Value => x[1]?) h
  simp [List.getElem?_drop] at h0 h1
  exact ⟨h0, h1⟩
theorem of_laid {W : World} (h : laidMetH Tryd.prog laidL W) : Tab W := by
  rw [MakeChecks.laidMetH_plain _ _ _ (by kernel_rfl)] at h
  obtain ⟨ps, ⟨g0, t0, cs0, f0, p0, q0, hg0, ht0, hv0, hd0, _, _⟩, _, _⟩ := h
  obtain rfl := Option.some.inj (gAway.symm.trans hg0)
  obtain rfl := Option.some.inj (tAway.symm.trans ht0)
  have hcell := fun i => World.var?_cell hg0 hv0 i
  obtain ⟨xs, m1, _, hx1, hlen, hn3, hel⟩ := DataW.trod_array Tryd.underlying88 hd0
  rw [cellsTwo] at hel
  have hx := (Prod.mk.inj hx1).1
  simp only [Rows.laid_steeplejack_stack_away, DataW.agg.injEq] at hx
  match xs, hn3, hx, hel with
  | [x0, x1, x2, x3], _, hx, hel =>
    simp only [List.map_cons, List.map_nil, List.cons.injEq, and_true] at hx
    have r0 := two_at (pair_of (hel 0 (by omega)) hx.1.symm)
    have r1 := two_at (pair_of (hel 1 (by omega)) hx.2.1.symm)
    have r2 := two_at (pair_of (hel 2 (by omega)) hx.2.2.1.symm)
    have r3 := two_at (pair_of (hel 3 (by omega)) hx.2.2.2.symm)
    intro s hs
    rw [hcell, hcell]
    rcases (show s = 0 ∨ s = 1 ∨ s = 2 ∨ s = 3 by omega) with rfl | rfl | rfl | rfl
    · exact ⟨by simpa [awE] using r0.1, by simpa [awN] using r0.2⟩
    · exact ⟨by simpa [awE] using r1.1, by simpa [awN] using r1.2⟩
    · exact ⟨by simpa [awE] using r2.1, by simpa [awN] using r2.2⟩
    · exact ⟨by simpa [awE] using r3.1, by simpa [awN] using r3.2⟩
/-- The heap that the program's own text leaves meets the condition. -/
theorem door_met (os : Os) (args : Array Value) : laidMetH Tryd.prog laidL ((World.doorLaid Tryd.prog 400 os).forCall (fun _ _ => 0) ⟨#[], args, []⟩).memory :=
  laidMetH_of_parts3 (fuel := 8) (laidMet_of_run' 8 (by kernel_rfl) (by kernel_rfl)) (by kernel_rfl) (by kernel_rfl)

theorem cellsCourse : Tryd.prog.cellsOf 51 = 6 := by kernel_rfl
section
variable {H : Type} {enc : TypeId × Value → H} {P : Program} {w : World} {base : Nat} {spare : Nat → Bool} {held : Bool}
theorem open_crs {r : Reach} {b0 : Nat} {t e : TypeId} {fs : Array Field} {v : Value} {d : DataW H} {p : List MemPlace} (ht : P.underlying t = some (.slice e)) (he : P.underlying e = some (.struct fs)) (ce : P.cellsOf e = 6) (hs : fs.size = 6) (hf : intFieldsB P 0 fs.toList = true)
    (hv : Value.okWide P w r b0 t v) (h : DataW.Trod enc P w base spare held t v d p) : ∃ n f, Crs w w.heap.size v n f := by
  rcases open_rows (k := 6) ht he (by omega) ce hs hf hv h with ⟨a, cap, rfl⟩ | ⟨b, off, len, cap, V, rfl, h0, hm, hb, hc⟩
  · exact ⟨0, fun _ _ => 0, a, cap, rfl, fun h => absurd h (by omega)⟩
  · exact ⟨len, V, some ⟨b, off, none⟩, cap, rfl, fun _ => ⟨b, off, rfl, hb, fun i hi => ⟨(hc i hi 0 (by omega)).1, (hc i hi 1 (by omega)).1, (hc i hi 2 (by omega)).1, (hc i hi 3 (by omega)).1, (hc i hi 4 (by omega)).1, (hc i hi 5 (by omega)).1⟩⟩⟩
end
end Go.Proofs.YtplhbklfaokjbaaDoor
