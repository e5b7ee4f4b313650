/- Bounds in the reference: the walk. -/
import Derived.Test.YtfmoedlnjlkiiaaDoorWbf
import Derived.Test.YtfmoedlnjlkiiaaDoorWbe
import Derived.Deep.DeepCutAuto
namespace Go.Proofs.YtfmoedlnjlkiiaaDoor
open Go.RowKit
attribute [local go_sem] After.cell After.frozen After.lt After.le After.ne After.ne' After.set_eq After.size_set After.lt_add

/-- N numbers in a block. -/
def irA (h : Nat → Int) (N : Nat) : Array Value := (Array.range N).map fun i => .int .i64 (h i)
structure BxI (W : World) (X N : Nat) (h : Nat → Int) : Prop where
  obj : W.heap[X]? = some (.cells (irA h N) 3 (0, 0))
theorem irA_size (h : Nat → Int) (N : Nat) : (irA h N).size = N := by simp [irA]
theorem irA_get {h : Nat → Int} {N i : Nat} (hi : i < N) : (irA h N)[i]? = some (.int .i64 (h i)) := by
  unfold irA
  rw [Array.getElem?_map, Array.getElem?_range, if_pos hi]; rfl
theorem irA_set {h : Nat → Int} {N j : Nat} (v : Int) : (irA h N).setIfInBounds j (.int .i64 v) = irA (fun i => if i = j then v else h i) N := by
  apply Array.ext_getElem?
  intro i
  rw [Array.getElem?_setIfInBounds, irA_size]
  by_cases hi : i < N
  · rw [irA_get hi, irA_get hi]
    by_cases e : j = i
    · subst e; rw [if_pos rfl, if_pos hi, if_pos rfl]
    · rw [if_neg e, if_neg (fun h => e h.symm)]
  · rw [Array.getElem?_eq_none (by rw [irA_size]; omega : (irA h N).size ≤ i), Array.getElem?_eq_none (by rw [irA_size]; omega)]
    by_cases e : j = i
    · rw [if_pos e, if_neg (by omega)]
    · rw [if_neg e]
theorem BxI.cell {W : World} {X N : Nat} {h : Nat → Int} (b : BxI W X N h) {i : Nat} (hi : i < N) : W.cell? ⟨X, i, none⟩ = some (.int .i64 (h i)) := by rw [cell_of_row W X i _ _ (0, 0) b.obj, irA_get hi]
theorem BxI.free {W : World} {X N : Nat} {h : Nat → Int} (b : BxI W X N h) (i : Nat) : W.frozen? ⟨X, i, none⟩ = false := frozen_of_row W X i _ _ b.obj
theorem BxI.on {W W' : World} {X N : Nat} {h : Nat → Int} (b : BxI W X N h) (hb : Below W.heap.size W W') : BxI W' X N h := ⟨obj_on b.obj hb⟩
theorem BxI.set {W : World} {X N : Nat} {h : Nat → Int} (b : BxI W X N h) (j : Nat) (v : Int) : BxI (W.setCell ⟨X, j, none⟩ (.int .i64 v)) X N fun i => if i = j then v else h i := ⟨by rw [← irA_set v]; exact Go.Joins.block_setCell b.obj _⟩
theorem BxI.other {W : World} {X Y N : Nat} {h : Nat → Int} (b : BxI W X N h) (hne : X ≠ Y) (j : Nat) (v : Value) : BxI (W.setCell ⟨Y, j, none⟩ v) X N h := ⟨by rw [heap_setCell_other _ _ _ _ hne]; exact b.obj⟩
theorem made_irA (N : Nat) : madeCells #[.int .i64 0] (N * 1) = irA (fun _ => 0) N := by
  apply Array.ext_getElem?
  intro i
  unfold madeCells irA
  simp only [Array.getElem?_map]
  by_cases hi : i < N
  · rw [Array.getElem?_range, Array.getElem?_range, if_pos (by omega), if_pos hi]
    simp [Nat.mod_one]
  · rw [Array.getElem?_range, Array.getElem?_range, if_neg (by omega), if_neg hi]
    rfl
/-- Two rows of the call's own, beside the rule's box. -/
structure TwR (w W : World) (s g c : Int) (X Y N : Nat) (h1 h2 : Nat → Int) : Prop where
  a : BxI W X N h1
  b : BxI W Y N h2
  ne : X ≠ Y
  lx : w.heap.size < X
  ly : w.heap.size < Y
  ru : W.heap[w.heap.size]? = some (.cells #[.int .i64 s, .int .i64 g, .int .i64 c] 23 (0, 0))
  be : Below w.heap.size w W
section
variable {w W W' : World} {s g c : Int} {X Y N : Nat} {h1 h2 : Nat → Int}
theorem TwR.on (h : TwR w W s g c X Y N h1 h2) (hb : Below W.heap.size W W') : TwR w W' s g c X Y N h1 h2 := ⟨h.a.on hb, h.b.on hb, h.ne, h.lx, h.ly, obj_on h.ru hb, h.be.trans (hb.mono h.be.size)⟩
theorem TwR.setA (h : TwR w W s g c X Y N h1 h2) (j : Nat) (v : Int) : TwR w (W.setCell ⟨X, j, none⟩ (.int .i64 v)) s g c X Y N (fun i => if i = j then v else h1 i) h2 :=
  ⟨h.a.set j v, h.b.other h.ne.symm j _, h.ne, h.lx, h.ly, by rw [heap_setCell_other _ _ _ _ (Nat.ne_of_lt h.lx)]; exact h.ru, h.be.setCell (Nat.le_of_lt h.lx) _⟩
theorem TwR.setB (h : TwR w W s g c X Y N h1 h2) (j : Nat) (v : Int) : TwR w (W.setCell ⟨Y, j, none⟩ (.int .i64 v)) s g c X Y N h1 (fun i => if i = j then v else h2 i) :=
  ⟨h.a.other h.ne j _, h.b.set j v, h.ne, h.lx, h.ly, by rw [heap_setCell_other _ _ _ _ (Nat.ne_of_lt h.ly)]; exact h.ru, h.be.setCell (Nat.le_of_lt h.ly) _⟩
theorem TwR.far (h : TwR w W s g c X Y N h1 h2) {Z : Nat} (hx : Z ≠ X) (hy : Z ≠ Y) (hz : w.heap.size < Z) (j : Nat) (v : Value) : TwR w (W.setCell ⟨Z, j, none⟩ v) s g c X Y N h1 h2 :=
  ⟨h.a.other hx.symm j v, h.b.other hy.symm j v, h.ne, h.lx, h.ly, by rw [heap_setCell_other _ _ _ _ (Nat.ne_of_lt hz)]; exact h.ru, h.be.setCell (Nat.le_of_lt hz) _⟩
theorem TwR.congr (h : TwR w W s g c X Y N h1 h2) {k1 k2 : Nat → Int} (e1 : ∀ i, i < N → h1 i = k1 i) (e2 : ∀ i, i < N → h2 i = k2 i) : TwR w W s g c X Y N k1 k2 := by
  have g1 : irA h1 N = irA k1 N := by
    unfold irA
    apply Array.ext_getElem?
    intro i
    rw [Array.getElem?_map, Array.getElem?_map]
    by_cases hi : i < N
    · rw [Array.getElem?_range, if_pos hi]; exact congrArg (fun z => some (Value.int .i64 z)) (e1 i hi)
    · rw [Array.getElem?_range, if_neg hi]; rfl
  have g2 : irA h2 N = irA k2 N := by
    unfold irA
    apply Array.ext_getElem?
    intro i
    rw [Array.getElem?_map, Array.getElem?_map]
    by_cases hi : i < N
    · rw [Array.getElem?_range, if_pos hi]; exact congrArg (fun z => some (Value.int .i64 z)) (e2 i hi)
    · rw [Array.getElem?_range, if_neg hi]; rfl
  exact ⟨⟨by rw [← g1]; exact h.a.obj⟩, ⟨by rw [← g2]; exact h.b.obj⟩, h.ne, h.lx, h.ly, h.ru, h.be⟩
theorem twr_new (hr : W.heap[w.heap.size]? = some (.cells #[.int .i64 s, .int .i64 g, .int .i64 c] 23 (0, 0))) (hb : Below w.heap.size w W) :
    TwR w ((W.alloc (.cells (irA h1 N) 3)).alloc (.cells (irA h2 N) 3)) s g c W.heap.size (W.heap.size + 1) N h1 h2 := by
  have hl := obj_lt hr
  have e2 := heap_alloc_new (W.alloc (.cells (irA h1 N) 3)) (.cells (irA h2 N) 3)
  rw [show (W.alloc (.cells (irA h1 N) 3)).heap.size = W.heap.size + 1 by simp] at e2
  have hB : Below W.heap.size W ((W.alloc (.cells (irA h1 N) 3)).alloc (.cells (irA h2 N) 3)) := ((Below.refl _ W).alloc (Nat.le_refl _) _).alloc (by simp) _
  exact ⟨⟨by rw [Go.heap_alloc_old _ _ (by simp)]; exact heap_alloc_new _ _⟩, ⟨e2⟩, by omega, hl, by omega, obj_on hr hB, hb.trans (hB.mono hb.size)⟩
theorem TwR.swap (h : TwR w W s g c X Y N h1 h2) : TwR w W s g c Y X N h2 h1 := ⟨h.b, h.a, h.ne.symm, h.ly, h.lx, h.ru, h.be⟩
theorem TwR.rule (h : TwR w W s g c X Y N h1 h2) : W.cell? ⟨w.heap.size, 0, none⟩ = some (.int .i64 s) ∧ W.cell? ⟨w.heap.size, 1, none⟩ = some (.int .i64 g) ∧ W.cell? ⟨w.heap.size, 2, none⟩ = some (.int .i64 c) := by
  refine ⟨?_, ?_, ?_⟩ <;> (rw [cell_of_row W _ _ _ _ (0, 0) h.ru]; rfl)
end
set_option maxRecDepth 100000 in
set_option maxHeartbeats 1000000 in
theorem rbounds_bad (s g c : Int) (a : Option Addr) (n cap : Nat) (f : Nat → Int) (w : World) (hA : IAt w a n f) (hn : n ≤ 9223372036854775807) (hk : AskB s g c n f = false) :
    Calls Tryd.prog 28 #[.agg #[.int .i64 s, .int .i64 g, .int .i64 c], .slice a n cap] w fun e w' => PBn (AskB s g c n f) (AllS s g c f n) e ∧ Below w.heap.size w w' := by
  have HV := Lib.hid (fun W (hW : Below w.heap.size w W) => asked_any s g c a n cap f W (hA.on hW) hn)
  rw [hk] at HV ⊢
  clear hA
  go_enter Tryd.func28, Tryd.ntmps28
  go_wp2_with fail
  refine calls_after (HV.out _ (by (repeat' (first | (with_reducible exact Below.refl _ _) | (with_reducible assumption) | (with_reducible refine Below.alloc ?_ ?_ _) | (with_reducible refine Below.drew ?_) | (with_reducible refine below_drewN ?_ _) | (with_reducible refine Below.setCell ?_ ?_ _) | (with_reducible refine below_after ?_ ?_ _) | (with_reducible refine below_set ?_) | (with_reducible refine After.size_le _ ?_) | (with_reducible refine size_alloc_le ?_) | (with_reducible refine size_set_le ?_) | (with_reducible refine size_drewN_le ?_) | go_size)))) ?_
  intro x1
  go_wp2
  go_returns
  exact ⟨rfl, by (repeat' (first | (with_reducible exact Below.refl _ _) | (with_reducible assumption) | (with_reducible refine Below.alloc ?_ ?_ _) | (with_reducible refine Below.drew ?_) | (with_reducible refine below_drewN ?_ _) | (with_reducible refine Below.setCell ?_ ?_ _) | (with_reducible refine below_after ?_ ?_ _) | (with_reducible refine below_set ?_) | (with_reducible refine After.size_le _ ?_) | (with_reducible refine size_alloc_le ?_) | (with_reducible refine size_set_le ?_) | (with_reducible refine size_drewN_le ?_) | go_size))⟩
def ini (k : Nat) (i : Nat) : Int := if 1 ≤ i ∧ i < k then -1 else 0
end Go.Proofs.YtfmoedlnjlkiiaaDoor
