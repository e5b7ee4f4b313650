/- Stacks: what the library's variables hold, out of the row's condition and the world's shape. -/
import Derived.Test.YtcaelmaoldmgpaaDoorRow
import Derived.Test.YtcaelmaoldmgpaaDoorStd
import Derived.Test.YtcaelmaoldmgpaaDoorCrCrown
import Derived.Test.YtcaelmaoldmgpaaDoorSlices
import Derived.LaidMore
import Derived.OpenShut
import Derived.MakeChecks
import Derived.FnData
import Derived.LaidHandle
import Derived.Stop.LaidErr
import Derived.Lib.LaidTab
import Derived.Shelf.Vars
import Derived.HandedShaped
import Derived.Lay
import Derived.ChangeMaps5
import Derived.LaidLaws
namespace Go.Proofs.YtcaelmaoldmgpaaDoor
open Go.ChangeShapes Go.WideShapes Go.ChangeAt Go.RowKit Go.Joins Go.Deep Cr

/-- The wrap with a condition on the memory and the world's shape. -/
theorem handed_shaped {H : Type} {enc : TypeId × Value → H} {a : Assume} {C : Checked} {os : Os} {f : FuncId} {fn : Func} {s : ChangeSpec} {conds : List PathCond} {apart fresh handsOn again : Bool} {X : World → Array Value → Prop}
    (hX : ∀ (w w' : World) (args : Array Value), w.heap = w'.heap → X w args → X w' args)
    (own : ownKnob C.prog.godebug = none) (started : os.Started) (noInit : C.prog.inits.idxOf? f = none) (hfn : C.prog.funcs[f]? = some fn)
    (witness : ∃ (w : World) (tape : Tape) (i : Input), w.os = os ∧ (w.forCall tape i).Shaped C.prog ∧ i.vars = [] ∧ Input.okWide C.prog (w.forCall tape i) .any w.heap.size f i ∧
      ((s.pre enc C.prog fn conds apart (w.forCall tape i).memory i.args ∧ X (w.forCall tape i).memory i.args) ∧ sizedMet enc C.prog fn (OpenSpec.ofChange s) apart (w.forCall tape i).memory i.args) ∧ a.holds C.prog (lone (Frame.enter C.prog f i.args .normal) [] (w.forCall tape i)))
    (contract : ∀ (W : World) (base : Nat) (args : Array Value) (ds gs : List (DataW H)) (before : List MemPlace),
      (∀ (j : Nat) t v, fn.params[j]? = some t → args[j]? = some v → Value.okWide C.prog W .any base t v) →
      DataW.Whole enc C.prog fn.params.toList s.vars apart W args.toList ds gs before →
      X W args → W.ShapedOpen C.prog →
      Calls C.prog f args W fun e W' => ∃ v, e = .returned v ∧ s.post enc C.prog fn apart fresh handsOn again W args v W') :
    ReturnsInHanded a C os f .any (fun w args => (s.pre enc C.prog fn conds apart w args ∧ X w args) ∧ sizedMet enc C.prog fn (OpenSpec.ofChange s) apart w args) (s.post enc C.prog fn apart fresh handsOn again) := by
  refine returnsInHanded_of_calls own started noInit witness ?_
  intro w tape i _ hsh _ hok hpre _
  obtain ⟨_, _, _, fn', hfn', _, _, _, _, hval⟩ := hok
  have e : fn' = fn := Option.some.inj (hfn'.symm.trans hfn)
  subst e
  obtain ⟨⟨⟨ds, gs, before, hw, _⟩, hx⟩, _⟩ := hpre
  have hw' := DataW.Whole.of_heap (w' := w.forCall tape i) (by rfl) hw
  refine (contract (w.forCall tape i) w.heap.size i.args ds gs before hval hw' (hX _ _ _ (by rfl) hx) hsh).mono fun e W' ⟨v, he, hp⟩ => ?_
  subst he
  exact ChangeSpec.post_blind hp

abbrev laidL : List (String × DataW Unit) := [("math/bits.deBruijn32tab", Rows.laid_math_bits_deBruijn32tab), ("math/bits.deBruijn64tab", Rows.laid_math_bits_deBruijn64tab), ("internal/strconv.uint64pow10", Rows.laid_internal_strconv_uint64pow10), ("unicode/utf8.acceptRanges", Rows.laid_unicode_utf8_acceptRanges), ("strconv.ErrRange", Rows.laid_strconv_ErrRange), ("strconv.ErrSyntax", Rows.laid_strconv_ErrSyntax), ("steeplejack/stack.away", Rows.laid_steeplejack_stack_away), ("unicode/utf8.first", Rows.laid_unicode_utf8_first)]
theorem powTab : (Rows.laid_internal_strconv_uint64pow10 : DataW Unit) = Lib.tabData .u64 Lib.pow10Tab := by kernel_rfl
theorem errStar : "*" ++ "errors.errorString" = "*errors.errorString" := by decide
theorem errRow (u : TypeId) (h : Tryd.prog.typeName? 3 u = some "*errors.errorString") : u = 166 :=
  typeName_ptr_named (nm := "errors.errorString") (by rw [errStar]; kernel_rfl) (by kernel_rfl) (by decide) u (by rw [errStar]; exact h)
set_option maxRecDepth 100000 in
theorem std_of {W : World} (h : laidMetH Tryd.prog laidL W) (hsh : W.ShapedOpen Tryd.prog) : Std W := by
  rw [MakeChecks.laidMetH_plain _ _ _ (by kernel_rfl)] at h
  have h2 := h.tail.tail
  have h4 := h2.tail.tail
  have h5 := h4.tail
  have hp : laidMet Tryd.prog (("internal/strconv.uint64pow10", Lib.tabData .u64 Lib.pow10Tab) :: laidL.drop 3) W := by rw [← powTab]; exact h2
  have tab : Lib.TabIs Tryd.prog W "internal/strconv.uint64pow10" .u64 Lib.pow10Tab := Lib.tabIs_of_head (g := 6) (t := 170) (by kernel_rfl) (by kernel_rfl) Tryd.underlying170 Tryd.underlying144 (by kernel_rfl) (by kernel_rfl) hp
  obtain ⟨a, s, hr, _⟩ := laid_sentinel (g := 3) (ti := 59) h4 (by kernel_rfl) (by kernel_rfl) Tryd.underlying59 errRow Tryd.underlying166 Tryd.underlying168 rfl rfl Tryd.underlying9 (by kernel_rfl) (by kernel_rfl)
  obtain ⟨b, t, hs, _⟩ := laid_sentinel (g := 2) (ti := 59) h5 (by kernel_rfl) (by kernel_rfl) Tryd.underlying59 errRow Tryd.underlying166 Tryd.underlying168 rfl rfl Tryd.underlying9 (by kernel_rfl) (by kernel_rfl)
  obtain ⟨mm, hmm⟩ := cell_of_shapedOpen_int (P := Tryd.prog) (g := 1) (t := 3) (zero := #[.int .i64 0]) hsh (of_decide_eq_true (by kernel_rfl)) (by kernel_rfl) rfl (by kernel_rfl) (by kernel_rfl) Tryd.underlying3
  refine ⟨tab, ⟨_, _, hs⟩, ⟨_, _, hr⟩, ⟨mm, hmm⟩, ?_, ?_, ?_, World.block_lt_of_cell? W _ hmm⟩
  · exact World.block_lt_of_cell? W _ (World.var?_cell (show Tryd.prog.globalNamed "strconv.ErrSyntax" = some 2 by kernel_rfl) hs 0)
  · exact World.block_lt_of_cell? W _ (World.var?_cell (show Tryd.prog.globalNamed "strconv.ErrRange" = some 3 by kernel_rfl) hr 0)
  · have := World.block_lt_of_cell? W _ (tab.cell (g := 6) (by kernel_rfl) 0 (by decide))
    exact this
theorem gAway : Tryd.prog.globalNamed "steeplejack/stack.away" = some 0 := by kernel_rfl
theorem tAway : (Tryd.prog.globals[0]?).map (·.type) = some 111 := by kernel_rfl
theorem cellsTwo : Tryd.prog.cellsOf 110 = 2 := by kernel_rfl
theorem cellsOne : Tryd.prog.cellsOf 3 = 1 := by kernel_rfl
set_option maxRecDepth 100000 in
theorem pair_of {H : Type} {enc : TypeId × Value → H} {w : World} {base fuel : Nat} {spare : Nat → Bool} {held : Bool} {cs : List Value} {x : DataW H × List MemPlace} {a b : Int}
    (h : DataW.trod enc Tryd.prog w base spare held fuel 110 cs = some x) (hx : x.1 = .agg [.lit (.int .i64 a), .lit (.int .i64 b)]) : cs = [.int .i64 a, .int .i64 b] := by
  obtain ⟨ys, m, _, hy, hlen, hn, hel⟩ := DataW.trod_array Tryd.underlying110 h
  rw [cellsTwo] at hlen
  have h0 := hel 0 (by omega)
  have h1 := hel 1 (by omega)
  rw [cellsOne] at h0 h1
  match ys, hn, cs, hlen with
  | [y0, y1], _, [c0, c1], _ =>
    simp only [List.getElem?_cons_zero, List.getElem?_cons_succ, Nat.zero_mul, Nat.one_mul, List.drop_zero, List.drop_succ_cons, List.take_succ_cons, List.take_zero] at h0 h1
    obtain ⟨k0, e0, f0, _⟩ := DataW.trod_int Tryd.underlying3 h0
    obtain ⟨k1, e1, f1, _⟩ := DataW.trod_int Tryd.underlying3 h1
    subst hy
    rw [f0, f1] at hx
    simp at hx e0 e1
    rw [e0, e1, hx.1, hx.2]
theorem two_at {l : List Value} {n : Nat} {a b : Value} (h : (l.drop n).take 2 = [a, b]) : l[n]? = some a ∧ l[n + 1]? = some b := by
  have h0 := congrArg (fun x : List Value => x[0]?) h
  have h1 := congrArg (fun x : List Value => x[1]?) h
  simp [List.getElem?_drop] at h0 h1
  exact ⟨h0, h1⟩
theorem tab_of {W : World} {r : List (String × DataW Unit)} (h : laidMet Tryd.prog (("steeplejack/stack.away", Rows.laid_steeplejack_stack_away) :: r) W) : Tab W := by
  obtain ⟨ps, ⟨g0, t0, cs0, f0, p0, q0, hg0, ht0, hv0, hd0, _, _⟩, _, _⟩ := h
  obtain rfl := Option.some.inj (gAway.symm.trans hg0)
  obtain rfl := Option.some.inj (tAway.symm.trans ht0)
  have hcell := fun i => World.var?_cell hg0 hv0 i
  obtain ⟨xs, m1, _, hx1, hlen, hn3, hel⟩ := DataW.trod_array Tryd.underlying111 hd0
  rw [cellsTwo] at hel
  have hx := (Prod.mk.inj hx1).1
  simp only [Rows.laid_steeplejack_stack_away, DataW.agg.injEq] at hx
  match xs, hn3, hx, hel with
  | [x0, x1, x2, x3], _, hx, hel =>
    simp only [List.map_cons, List.map_nil, List.cons.injEq, and_true] at hx
    have r0 := two_at (pair_of (hel 0 (by omega)) hx.1.symm)
    have r1 := two_at (pair_of (hel 1 (by omega)) hx.2.1.symm)
    have r2 := two_at (pair_of (hel 2 (by omega)) hx.2.2.1.symm)
    have r3 := two_at (pair_of (hel 3 (by omega)) hx.2.2.2.symm)
    intro s hs
    rw [hcell, hcell]
    rcases (show s = 0 ∨ s = 1 ∨ s = 2 ∨ s = 3 by omega) with rfl | rfl | rfl | rfl
    · exact ⟨by simpa [awE] using r0.1, by simpa [awN] using r0.2⟩
    · exact ⟨by simpa [awE] using r1.1, by simpa [awN] using r1.2⟩
    · exact ⟨by simpa [awE] using r2.1, by simpa [awN] using r2.2⟩
    · exact ⟨by simpa [awE] using r3.1, by simpa [awN] using r3.2⟩
theorem tab_laid {W : World} (h : laidMetH Tryd.prog laidL W) : Tab W := by
  rw [MakeChecks.laidMetH_plain _ _ _ (by kernel_rfl)] at h
  exact tab_of h.tail.tail.tail.tail.tail.tail
/-- A world that meets the condition. -/
theorem all_met (os : Os) (args : Array Value) : laidMetH Tryd.prog laidL ((World.laidAll Tryd.prog os laidL).forCall (fun _ _ => 0) ⟨#[], args, []⟩).memory := by
  rw [MakeChecks.laidMetH_plain _ _ _ (by kernel_rfl)]
  exact laidMet_laidAll _ (by kernel_rfl) (by kernel_rfl)
theorem cellsCourse : Tryd.prog.cellsOf 38 = 6 := by kernel_rfl
section
variable {H : Type} {enc : TypeId × Value → H} {P : Program} {w : World} {base : Nat} {spare : Nat → Bool} {held : Bool}
theorem open_crs {r : Reach} {b0 : Nat} {t e : TypeId} {fs : Array Field} {v : Value} {d : DataW H} {p : List MemPlace} (ht : P.underlying t = some (.slice e)) (he : P.underlying e = some (.struct fs)) (ce : P.cellsOf e = 6) (hs : fs.size = 6) (hf : intFieldsB P 0 fs.toList = true)
    (hv : Value.okWide P w r b0 t v) (h : DataW.Trod enc P w base spare held t v d p) : ∃ n f, Crs w w.heap.size v n f := by
  rcases open_rows (k := 6) ht he (by omega) ce hs hf hv h with ⟨a, cap, rfl⟩ | ⟨b, off, len, cap, V, rfl, h0, hm, hb, hc⟩
  · exact ⟨0, fun _ _ => 0, a, cap, rfl, fun h => absurd h (by omega)⟩
  · exact ⟨len, V, some ⟨b, off, none⟩, cap, rfl, fun _ => ⟨b, off, rfl, hb, fun i hi => ⟨(hc i hi 0 (by omega)).1, (hc i hi 1 (by omega)).1, (hc i hi 2 (by omega)).1, (hc i hi 3 (by omega)).1, (hc i hi 4 (by omega)).1, (hc i hi 5 (by omega)).1⟩⟩⟩
end
end Go.Proofs.YtcaelmaoldmgpaaDoor
