/- Own theory, over any program: the worlds in which nothing below a block number has turned, as a type ('After W'), so that the walk's simp reads cells through calls by itself; regions that draw their order and whose callees only make memory, walked once in the text's order, with a tail that is forced (a store, an append) behind it. -/
import Derived.Deep.Quiet
import Derived.Deep.QuietTactic
import Derived.StillTail
import Derived.Below
import Derived.WalkKit
import Derived.Tactics
import Derived.KernelRfl
namespace Go.Proofs.Ytbjdojcenflliaa
open Go.RowKit

/-- A world that comes behind W: below W's size nothing has turned. -/
structure After (W : World) where
  w : World
  out : Below W.heap.size W w

instance After.some_ (W : World) : Nonempty (After W) := ⟨⟨W, Below.refl _ _⟩⟩
theorem After.cell {W : World} (x : After W) (p : Addr) (h : p.block < W.heap.size) : x.w.cell? p = W.cell? p := x.out.cell h
theorem After.frozen {W : World} (x : After W) (p : Addr) (h : p.block < W.heap.size) : x.w.frozen? p = W.frozen? p := x.out.frozen h
theorem After.lt {W : World} (x : After W) (b : Nat) (h : b < W.heap.size) : (b < x.w.heap.size) = True := by
  have := x.out.size
  simp; omega
theorem After.le {W : World} (x : After W) (b : Nat) (h : b ≤ W.heap.size) : (b ≤ x.w.heap.size) = True := by
  have := x.out.size
  simp; omega
theorem After.ne {W : World} (x : After W) (b : Nat) (h : b < W.heap.size) : (b = x.w.heap.size) = False := by
  have := x.out.size
  simp; omega
theorem After.ne' {W : World} (x : After W) (b : Nat) (h : b < W.heap.size) : (x.w.heap.size = b) = False := by
  have := x.out.size
  simp; omega

/-- A store behind W, as a world that comes behind the store into W. -/
def After.set {W : World} (x : After W) (p : Addr) (v : Value) : After (W.setCell p v) := ⟨x.w.setCell p v, x.out.os, x.out.tape, x.out.output, by have := x.out.size; simpa using this, fun k hk => by
  have h := x.out.block k (by simpa using hk)
  simp only [World.setCell, Array.getElem?_modify]
  rw [h]⟩
theorem After.set_eq {W : World} (x : After W) (p : Addr) (v : Value) : x.w.setCell p v = (x.set p v).w := rfl
theorem After.lt_add {W : World} (x : After W) (b k : Nat) (h : b < x.w.heap.size) : (b < x.w.heap.size + k) = True := by
  simp; omega
theorem After.size_set {W : World} (x : After W) (p : Addr) (v : Value) : (x.set p v).w.heap.size = x.w.heap.size := by
  rw [← After.set_eq]; simp
theorem After.size_le {W : World} {b : Nat} (x : After W) (h : b ≤ W.heap.size) : b ≤ x.w.heap.size := Nat.le_trans h x.out.size
theorem After.size_lt {W : World} {b : Nat} (x : After W) (h : b < W.heap.size) : b < x.w.heap.size := Nat.lt_of_lt_of_le h x.out.size
theorem size_alloc_le {b : Nat} {w : World} {o : Obj} (h : b ≤ w.heap.size) : b ≤ (w.alloc o).heap.size := by simp; omega
theorem size_set_le {b : Nat} {w : World} {p : Addr} {v : Value} (h : b ≤ w.heap.size) : b ≤ (w.setCell p v).heap.size := by simpa using h
theorem size_drewN_le {b : Nat} {w : World} {n : Nat} (h : b ≤ w.heap.size) : b ≤ (w.drewN n).heap.size := h
/-- What lay below W's size lies on, said of cells and marks alone: for the regions in which blocks are made in any order. -/
abbrev Kept (W w' : World) : Prop := W.heap.size ≤ w'.heap.size ∧ ∀ p : Addr, p.block < W.heap.size → w'.cell? p = W.cell? p
theorem kept_drew (W : World) : Kept W W.drew := ⟨Nat.le_refl _, fun _ _ => rfl⟩
theorem kept_alloc {W w' : World} {o : Obj} (h : Kept W w') : Kept W (w'.alloc o) := ⟨by simp; omega, fun p hp => (World.cell?_alloc_lt w' o p (Nat.lt_of_lt_of_le hp h.1)).trans (h.2 p hp)⟩
theorem kept_set {W w' : World} {q : Addr} {u : Value} (h : Kept W w') (hq : W.heap.size ≤ q.block) : Kept W (w'.setCell q u) := ⟨by simpa using h.1, fun p hp => (World.cell?_setCell_other w' q p u (fun e => by subst e; omega)).trans (h.2 p hp)⟩
theorem keep_alloc {W : World} {a : Addr} {v : Value} {o : Obj} (h : W.cell? a = some v) : (W.alloc o).cell? a = some v := (World.cell?_alloc_lt W o a (World.block_lt_of_cell? W a h)).trans h
theorem keep_set {W : World} {p a : Addr} {u v : Value} (h : W.cell? a = some v) (hne : p ≠ a) : (W.setCell p u).cell? a = some v := (World.cell?_setCell_other W p a u hne).trans h
theorem below_set {B : Nat} {a W : World} {x : After W} {p : Addr} {v : Value} (h : Below B a (x.w.setCell p v)) : Below B a (x.set p v).w := h
/-- A result of two or three cells, read behind its stores. -/
theorem After.set3 {W : World} (z : After W) {r : Nat} {u0 u1 u2 : Value} (v0 v1 v2 : Value) (h0 : z.w.cell? ⟨r, 0, none⟩ = some u0) (h1 : z.w.cell? ⟨r, 1, none⟩ = some u1) (h2 : z.w.cell? ⟨r, 2, none⟩ = some u2) :
    (((z.set ⟨r, 0, none⟩ v0).set ⟨r, 1, none⟩ v1).set ⟨r, 2, none⟩ v2).w.cell? ⟨r, 0, none⟩ = some v0 ∧ (((z.set ⟨r, 0, none⟩ v0).set ⟨r, 1, none⟩ v1).set ⟨r, 2, none⟩ v2).w.cell? ⟨r, 1, none⟩ = some v1 ∧ (((z.set ⟨r, 0, none⟩ v0).set ⟨r, 1, none⟩ v1).set ⟨r, 2, none⟩ v2).w.cell? ⟨r, 2, none⟩ = some v2 := by
  simp only [← After.set_eq]
  have d10 : (⟨r, 1, none⟩ : Addr) ≠ ⟨r, 0, none⟩ := by simp
  have d20 : (⟨r, 2, none⟩ : Addr) ≠ ⟨r, 0, none⟩ := by simp
  have d21 : (⟨r, 2, none⟩ : Addr) ≠ ⟨r, 1, none⟩ := by simp
  have e1 := (World.cell?_setCell_other z.w ⟨r, 0, none⟩ ⟨r, 1, none⟩ v0 (Ne.symm d10)).trans h1
  have e2 := (World.cell?_setCell_other z.w ⟨r, 0, none⟩ ⟨r, 2, none⟩ v0 (Ne.symm d20)).trans h2
  have e3 := (World.cell?_setCell_other (z.w.setCell ⟨r, 0, none⟩ v0) ⟨r, 1, none⟩ ⟨r, 2, none⟩ v1 (Ne.symm d21)).trans e2
  refine ⟨?_, ?_, World.cell?_setCell_same _ _ _ e3⟩
  · rw [World.cell?_setCell_other _ _ _ _ d20, World.cell?_setCell_other _ _ _ _ d10]
    exact World.cell?_setCell_same _ _ _ h0
  · rw [World.cell?_setCell_other _ _ _ _ d21]
    exact World.cell?_setCell_same _ _ _ e1
theorem After.set2 {W : World} (z : After W) {r : Nat} {u0 u1 : Value} (v0 v1 : Value) (h0 : z.w.cell? ⟨r, 0, none⟩ = some u0) (h1 : z.w.cell? ⟨r, 1, none⟩ = some u1) :
    ((z.set ⟨r, 0, none⟩ v0).set ⟨r, 1, none⟩ v1).w.cell? ⟨r, 0, none⟩ = some v0 ∧ ((z.set ⟨r, 0, none⟩ v0).set ⟨r, 1, none⟩ v1).w.cell? ⟨r, 1, none⟩ = some v1 := by
  simp only [← After.set_eq]
  have d10 : (⟨r, 1, none⟩ : Addr) ≠ ⟨r, 0, none⟩ := by simp
  have e1 := (World.cell?_setCell_other z.w ⟨r, 0, none⟩ ⟨r, 1, none⟩ v0 (Ne.symm d10)).trans h1
  refine ⟨?_, World.cell?_setCell_same _ _ _ e1⟩
  rw [World.cell?_setCell_other _ _ _ _ d10]
  exact World.cell?_setCell_same _ _ _ h0
theorem below_drewN {B : Nat} {a w : World} (h : Below B a w) (n : Nat) : Below B a (w.drewN n) := ⟨h.os, h.tape, h.output, h.size, h.block⟩
/-- What a callee has left below the heap's size at its call, left below a lesser one. -/
theorem below_then {B : Nat} {a w w1 : World} (h : Below B a w) (k : Below w.heap.size w w1) (hB : B ≤ w.heap.size) : Below B a w1 := h.trans (k.mono hB)
theorem below_after {B : Nat} {a W : World} (h : Below B a W) (hB : B ≤ W.heap.size) (x : After W) : Below B a x.w := below_then h x.out hB

/-- A contract 'it returns v, and Below', as the walk wants it: the world behind it is an After. -/
theorem calls_after {P : Program} {f : FuncId} {args : Array Value} {W : World} {v : Value} {Q : Ending → World → Prop}
    (h : Calls P f args W fun e w' => e = .returned v ∧ Below W.heap.size W w') (k : ∀ x : After W, Q (.returned v) x.w) : Calls P f args W Q :=
  h.mono fun _ w' ⟨h1, h2⟩ => by subst h1; exact k ⟨w', h2⟩
/-- .. called in a world that comes behind W: what is left comes behind W. -/
theorem calls_after2 {P : Program} {f : FuncId} {args : Array Value} {W : World} {x : After W} {v : Value} {Q : Ending → World → Prop}
    (h : Calls P f args x.w fun e w' => e = .returned v ∧ Below x.w.heap.size x.w w') (k : ∀ y : After W, Q (.returned v) y.w) : Calls P f args x.w Q :=
  h.mono fun _ w' ⟨h1, h2⟩ => by subst h1; exact k ⟨w', x.out.trans (h2.mono x.out.size)⟩
theorem calls_afterD {P : Program} {f : FuncId} {args : Array Value} {W : World} {x : After W} {m : Nat} {v : Value} {Q : Ending → World → Prop}
    (h : Calls P f args (x.w.drewN m) fun e w' => e = .returned v ∧ Below (x.w.drewN m).heap.size (x.w.drewN m) w') (k : ∀ y : After W, Q (.returned v) y.w) : Calls P f args (x.w.drewN m) Q :=
  h.mono fun _ w' ⟨h1, h2⟩ => by
    subst h1
    exact k ⟨w', (show Below W.heap.size W (x.w.drewN m) from ⟨x.out.os, x.out.tape, x.out.output, x.out.size, x.out.block⟩).trans (h2.mono x.out.size)⟩
theorem drewN_after {P : Program} {f : FuncId} {args : Array Value} {W : World} {v : Value} {Q : Ending → World → Prop}
    (h : Calls P f args W fun e w' => e = .returned v ∧ ∃ n, w' = W.drewN n) (k : ∀ x : After W, Q (.returned v) x.w) : Calls P f args W Q :=
  calls_after (h.mono fun _ _ ⟨h1, n, h2⟩ => ⟨h1, by rw [h2]; exact ⟨rfl, rfl, rfl, Nat.le_refl _, fun _ _ => rfl⟩⟩) k
theorem drewN_after2 {P : Program} {f : FuncId} {args : Array Value} {W : World} {x : After W} {v : Value} {Q : Ending → World → Prop}
    (h : Calls P f args x.w fun e w' => e = .returned v ∧ ∃ n, w' = x.w.drewN n) (k : ∀ y : After W, Q (.returned v) y.w) : Calls P f args x.w Q :=
  calls_after2 (h.mono fun _ _ ⟨h1, n, h2⟩ => ⟨h1, by rw [h2]; exact ⟨rfl, rfl, rfl, Nat.le_refl _, fun _ _ => rfl⟩⟩) k
/-- .. in a region that is walked once. -/
theorem quiet_after {P : Program} {f : FuncId} {args : Array Value} {W : World} {x : After W} {v : Value}
    (h : Calls P f args x.w fun e w' => e = .returned v ∧ Below x.w.heap.size x.w w') : Calls P f args x.w fun e w' => e = .returned v ∧ ∃ y : After W, w' = y.w :=
  h.mono fun _ w' ⟨h1, h2⟩ => ⟨h1, ⟨w', below_after (Below.refl _ _) (Nat.le_refl _) x |>.trans (h2.mono x.out.size)⟩, rfl⟩
theorem quiet_after_drew {P : Program} {f : FuncId} {args : Array Value} {W : World} {x : After W} {v : Value}
    (h : Calls P f args x.w fun e w' => e = .returned v ∧ ∃ n, w' = x.w.drewN n) : Calls P f args x.w fun e w' => e = .returned v ∧ ∃ y : After W, w' = y.w :=
  quiet_after (h.mono fun _ w' ⟨h1, n, h2⟩ => ⟨h1, by rw [h2]; exact below_drewN (Below.refl _ _) n⟩)
theorem quiet_after_same {P : Program} {f : FuncId} {args : Array Value} {W : World} {x : After W} {v : Value}
    (h : Calls P f args x.w fun e w' => e = .returned v ∧ x.w = w') : Calls P f args x.w fun e w' => e = .returned v ∧ ∃ y : After W, w' = y.w :=
  h.mono fun _ _ ⟨h1, h2⟩ => ⟨h1, x, h2.symm⟩

theorem below_drawn (W : World) : Below W.heap.size W { W with drawn := W.drawn + 1 } := ⟨rfl, rfl, rfl, Nat.le_refl _, fun _ _ => rfl⟩

/-- A region that draws its order, every operation of which yields its value in every world behind W. -/
theorem wp_region_after {P : Program} {id : Nat} {Q : Exit → Act → World → Prop} {a : Act} {W : World} {l : List Oper} (hm : P.follows .mixedOrders = true) (hB : Region.lexB .any l.toArray = true)
    (h : wpQuiet P l.toArray (fun w' => ∃ x : After W, w' = x.w) (fun a' => ∀ x : After W, Q .normal a' x.w) l a) : (Code.region id l.toArray true).wp P Q a W :=
  wp_region_quiet (C := fun w' => ∃ x : After W, w' = x.w) hm hB ⟨⟨_, below_drawn W⟩, rfl⟩ (by
    have e : (fun a' => ∀ w', (∃ x : After W, w' = x.w) → Q .normal a' w') = (fun a' => ∀ x : After W, Q .normal a' x.w) := by
      funext a'
      exact propext ⟨fun h x => h _ ⟨x, rfl⟩, fun h w' ⟨x, hx⟩ => hx ▸ h x⟩
    rw [e]
    simpa using h)

/-! ### The same with a forced tail -/
section
variable {P : Program} {ops : Array Oper} {md : Region.Mode} {C : World → Prop}

def headQ (P : Program) (md : Region.Mode) (ops : Array Oper) (C : World → Prop) (n : Nat) (L : Array Bool → Act → Prop) : Nat → Array Bool → Act → Prop
  | 0, listed, a => L listed a
  | f + 1, listed, a =>
    Region.ready md ops listed ≠ [] ∧ ∀ i ∈ Region.ready md ops listed, i < n ∧ qOp P ops C i (headQ P md ops C n L f (listed.setIfInBounds i true)) a

theorem wpAny_of_headQ {n g : Nat} {L : Array Bool → Act → Prop} {Q' : Exit → Act → World → Prop} (hL : ∀ listed a w, C w → L listed a → wpAny P md ops Q' g listed a w) :
    ∀ (f : Nat) (listed : Array Bool) (a : Act) (w : World), C w → headQ P md ops C n L f listed a → wpAny P md ops Q' (f + g) listed a w
  | 0, listed, a, w, hw, h => by rw [Nat.zero_add]; exact hL _ _ _ hw h
  | f + 1, listed, a, w, hw, h => by
    rw [show f + 1 + g = (f + g) + 1 by omega]
    exact ⟨fun h0 => absurd h0 h.1, fun i hi => wpOp_of_qOp hw (fun a' w' hw' h' => wpAny_of_headQ hL f _ a' w' hw' h') (h.2 i hi).2⟩

theorem headQ_first {n i : Nat} {oi : Oper} {v : Value} {L : Array Bool → Act → Prop} (hi : ops[i]? = some oi) (hsel : ∀ (j : Nat) (o : Oper) cs b, ops[j]? = some o → o.op ≠ .select cs b)
    (hs : Region.sinkB md ops n = true) (hc : Region.chainB md ops n = true) (hn : n < ops.size) (hin : i < n)
    (hdone : ∀ listed a, L listed a → ∀ j ∈ Region.ready md ops listed, n ≤ j) :
    ∀ (f : Nat) (listed : Array Bool) (a : Act), HeadInv md ops n listed →
      (∀ j oj, ops[j]? = some oj → j ≠ i → listed.getD j true = false → (∀ e ∈ oj.after, Region.binds md e = true → e.on ≠ i) → oi.apart ops oj = true) →
      i ∈ Region.ready md ops listed → YieldsIn P ops C oi v a →
      headQ P md ops C n L f (listed.setIfInBounds i true) (a.put oi.dst v) → headQ P md ops C n L (f + 1) listed a := by
  intro f
  induction f with
  | zero =>
    intro listed a inv _ hr hy H
    have hun := (mem_ready.1 hr).1
    refine ⟨fun h => (by rw [h] at hr; cases hr), fun j hj => ?_⟩
    have hjn : j < n := by
      rcases Nat.lt_or_ge j n with h | h
      · exact h
      · exact absurd hj (tail_waits hs hc hn inv _ i rfl hin hun j h)
    refine ⟨hjn, ?_⟩
    by_cases hji : j = i
    · subst hji; exact hy.qOp hi H
    · have := hdone _ _ H j (ready_mono hj hji)
      omega
  | succ f ih =>
    intro listed a inv hfree hr hy H
    have hun := (mem_ready.1 hr).1
    refine ⟨fun h => (by rw [h] at hr; cases hr), fun j hj => ?_⟩
    have hjn : j < n := by
      rcases Nat.lt_or_ge j n with h | h
      · exact h
      · exact absurd hj (tail_waits hs hc hn inv _ i rfl hin hun j h)
    refine ⟨hjn, ?_⟩
    by_cases hji : j = i
    · subst hji; exact hy.qOp hi H
    · have h1 := (H.2 j (ready_mono hj hji)).2
      obtain ⟨hjun, oj, hoj, hall⟩ := mem_ready.1 hj
      have hnot : ∀ e ∈ oj.after, Region.binds md e = true → e.on ≠ i := fun e he hb heq => by
        have h1 := hall e he hb
        rw [heq, getD_both hun] at h1
        cases h1
      have h2 := qOp_put hoj (hfree j oj hoj hji hjun hnot) (fun cs b => hsel i oi cs b hi) (fun cs b => hsel j oj cs b hoj) hy h1
      have hfree' : ∀ k ok, ops[k]? = some ok → k ≠ i → (listed.setIfInBounds j true).getD k true = false →
          (∀ e ∈ ok.after, Region.binds md e = true → e.on ≠ i) → oi.apart ops ok = true := fun k ok hk hki hun hno => by
        refine hfree k ok hk hki ?_ hno
        by_cases hjk : j = k
        · subst hjk; exact hjun
        · rw [getD_set_ne true hjk] at hun; exact hun
      refine qOp_mono (fun a' h3 => ih (listed.setIfInBounds j true) a' (inv.set hj hjn) hfree' (ready_mono hr (Ne.symm hji)) h3.1 ?_) h2
      rw [Array.setIfInBounds_comm _ _ hji]
      exact h3.2

theorem headQ_lex {n g : Nat} {Lq : Act → Prop} (hsel : Region.noSelect ops = true) (hs : Region.sinkB md ops n = true) (hc : Region.chainB md ops n = true) (hn : n < ops.size) :
    ∀ (l : List Oper) (k : Nat) (listed : Array Bool) (a : Act), (∀ j, j < l.length → l[j]? = ops[k + j]?) → k + l.length = n → HeadInv md ops n listed →
    Region.lexHead md ops g l.length k listed = true → wpQuiet P ops C Lq l a →
    headQ P md ops C n (fun listed' a' => Region.seqB md ops g n listed' = true ∧ Lq a') l.length listed a
  | [], k, listed, a, _, hk, _, hB, h => by
    have : k = n := by simpa using hk
    subst this
    exact ⟨by simpa [Region.lexHead] using hB, h⟩
  | o :: l, k, listed, a, hl, hk, inv, hB, h => by
    have h0 : ops[k]? = some o := by simpa using (hl 0 (by simp)).symm
    simp only [List.length_cons, Region.lexHead, Bool.and_eq_true] at hB
    obtain ⟨⟨hr, hf⟩, hB'⟩ := hB
    have hkn : k < n := by simp only [List.length_cons] at hk; omega
    have hr' : k ∈ Region.ready md ops listed := by simpa using hr
    have hst : qOp P ops C k (wpQuiet P ops C Lq l) a := by unfold qOp; simp only [h0]; exact h
    obtain ⟨v, hy, hK⟩ := yieldsIn_of_qOp h0 hst
    exact headQ_first h0 (Region.noSelect_spec hsel) hs hc hn hkn (fun listed' a' hL => seqB_ready hL.1) l.length listed a inv (Region.free_spec h0 hf) hr' hy
      (headQ_lex hsel hs hc hn l (k + 1) _ _ (fun j hj => by have := hl (j + 1) (by simp; omega); simpa [Nat.add_assoc, Nat.add_comm 1 j] using this) (by simp only [List.length_cons] at hk; omega) (inv.set hr' hkn) hB' hK)

/-- A region that draws its order: its first n operations yield their values in every world of the class; the rest comes in one order alone. -/
theorem wp_region_quiet_tail {id : Nat} {Q : Exit → Act → World → Prop} {a : Act} {w : World} {l : List Oper} (n : Nat) (hm : P.follows .mixedOrders = true) (hB : Region.lexTailB .any l.toArray n = true) (hC : C { w with drawn := w.drawn + 1 })
    (h : wpQuiet P l.toArray C (fun a' => ∀ w', C w' → wpList P l.toArray Q (l.drop n) a' w') (l.take n) a) : (Code.region id l.toArray true).wp P Q a w := by
  simp only [Region.lexTailB, Bool.and_eq_true, decide_eq_true_eq] at hB
  obtain ⟨⟨⟨⟨hsel, hn⟩, hs⟩, hc⟩, hlex⟩ := hB
  have hn' : n < l.length := by simpa using hn
  have htl : (l.take n).length = n := by simp; omega
  have hdl : (l.drop n).length = l.toArray.size - n := by simp
  have inv0 : HeadInv .any l.toArray n (Array.replicate l.toArray.size false) :=
    ⟨by simp, fun j oj _ hl => (by rw [getD_replicate_false] at hl; cases hl), fun t _ ht => getD_in (by simpa using ht) (getD_replicate_false _ _)⟩
  have H := headQ_lex (md := .any) (g := l.toArray.size - n) hsel hs hc hn (l.take n) 0 _ a (fun j hj => by
    have hj' : j < n := by rw [htl] at hj; exact hj
    simp [hj']) (by simpa using htl) inv0 (by rw [htl]; exact hlex) h
  refine wp_region_any hm ?_
  have := wpAny_of_headQ (Q' := Q) (g := l.toArray.size - n) (fun listed a' w' hw' hL => by
    have := wpAny_of_seq (md := .any) (Q' := Q) (l.drop n) n listed a' w' (fun j => by simp [List.getElem?_drop]) (by rw [hdl]; exact hL.1) (hL.2 w' hw')
    rwa [hdl] at this) _ _ _ _ hC H
  rw [htl, show n + (l.toArray.size - n) = l.toArray.size by omega] at this
  exact this
end

theorem wp_region_after_tail {P : Program} {id : Nat} {Q : Exit → Act → World → Prop} {a : Act} {W : World} {l : List Oper} (n : Nat) (hm : P.follows .mixedOrders = true) (hB : Region.lexTailB .any l.toArray n = true)
    (h : wpQuiet P l.toArray (fun w' => ∃ x : After W, w' = x.w) (fun a' => ∀ x : After W, wpList P l.toArray Q (l.drop n) a' x.w) (l.take n) a) : (Code.region id l.toArray true).wp P Q a W :=
  wp_region_quiet_tail (C := fun w' => ∃ x : After W, w' = x.w) n hm hB ⟨⟨_, below_drawn W⟩, rfl⟩ (by
    have e : (fun a' => ∀ w', (∃ x : After W, w' = x.w) → wpList P l.toArray Q (l.drop n) a' w') = (fun a' => ∀ x : After W, wpList P l.toArray Q (l.drop n) a' x.w) := by
      funext a'
      exact propext ⟨fun h x => h _ ⟨x, rfl⟩, fun h w' ⟨x, hx⟩ => hx ▸ h x⟩
    rw [e]
    exact h)
end Go.Proofs.Ytbjdojcenflliaa
