/- A range over an iterator that has blocks of its own, turns blocks O that lay before, and makes a box of its own in each round (Z: what no round turns): what each side may turn is told by sets of blocks. After T4's XItr. -/
import Derived.RangeFuncNested
import Derived.RangeFuncBound
import Derived.RangeFuncCalls
import Derived.RangeFuncLeaves
import Derived.RangeFuncBox
import Derived.Below
import Derived.Test.YtbjdojcenflliaaProg
import Derived.Shelf.Abstract
import Derived.Shelf.RegionOpen
import Derived.WalkKit
import Derived.OwnWalkIn
import Derived.TacticsInMore
import Derived.LoopNIn
import Derived.LoopIn
namespace Go.Proofs.Ytbjdojcenflliaa
open Go.RowKit

/-- W' lies behind W; the blocks that M does not name are as they were. -/
structure Fr (M : Nat → Prop) (W W' : World) : Prop where
  os : W'.os = W.os
  tape : W'.tape = W.tape
  output : W'.output = W.output
  size : W.heap.size ≤ W'.heap.size
  same : ∀ i, i < W.heap.size → ¬ M i → W'.heap[i]? = W.heap[i]?
theorem Fr.refl {M : Nat → Prop} (W : World) : Fr M W W := ⟨rfl, rfl, rfl, Nat.le_refl _, fun _ _ _ => rfl⟩
theorem Fr.then {M M' : Nat → Prop} {A B C : World} (h : Fr M A B) (k : Fr M' B C) (hM : ∀ i, i < A.heap.size → ¬ M i → B.heap[i]? = A.heap[i]? → ¬ M' i) : Fr M A C :=
  ⟨k.os.trans h.os, k.tape.trans h.tape, k.output.trans h.output, Nat.le_trans h.size k.size, fun i hi hn => (k.same i (Nat.lt_of_lt_of_le hi h.size) (hM i hi hn (h.same i hi hn))).trans (h.same i hi hn)⟩
theorem Fr.mono {M M' : Nat → Prop} {A B : World} (h : Fr M A B) (hM : ∀ i, i < A.heap.size → M i → M' i) : Fr M' A B :=
  ⟨h.os, h.tape, h.output, h.size, fun i hi hn => h.same i hi (fun hm => hn (hM i hi hm))⟩
theorem Fr.put (A : World) (l : Nat) (o : Obj) : Fr (fun i => i = l) A (A.putObj l o) := ⟨rfl, rfl, rfl, by simp, fun _ _ hn => World.putObj_heap_other hn⟩
theorem Fr.alloc {M : Nat → Prop} {A B : World} (h : Fr M A B) (o : Obj) : Fr M A (B.alloc o) :=
  ⟨h.os, h.tape, h.output, by have := h.size; simp; omega, fun i hi hn => (Below.heap_alloc _ _ _ (Nat.lt_of_lt_of_le hi h.size)).trans (h.same i hi hn)⟩
theorem Fr.setCell {M : Nat → Prop} {A B : World} (h : Fr M A B) {p : Addr} (hp : M p.block ∨ A.heap.size ≤ p.block) (u : Value) : Fr M A (B.setCell p u) :=
  ⟨h.os, h.tape, h.output, by simpa using h.size, fun i hi hn => (Below.heap_setCell _ _ _ _ (fun e => by subst e; rcases hp with h1 | h1; exact hn h1; omega)).trans (h.same i hi hn)⟩
theorem Fr.drew {M : Nat → Prop} {A B : World} (h : Fr M A B) : Fr M A B.drew := ⟨h.os, h.tape, h.output, h.size, h.same⟩
theorem Fr.grown {M : Nat → Prop} {A B C : World} {row : Option Nat} (h : Fr M A B) (hg : B.grownBy C row) (hr : ∀ k, row = some k → M k ∨ A.heap.size ≤ k) : Fr M A C :=
  ⟨hg.os.trans h.os, hg.tape.trans h.tape, hg.output.trans h.output, Nat.le_trans h.size hg.size, fun i hi hn => (hg.block i (Nat.lt_of_lt_of_le hi h.size) (fun e => by rcases hr i e.symm with h1 | h1; exact hn h1; omega)).trans (h.same i hi hn)⟩
theorem Fr.call {M : Nat → Prop} {A B C : World} (h : Fr M A B) (hb : Below B.heap.size B C) : Fr M A C :=
  ⟨hb.os.trans h.os, hb.tape.trans h.tape, hb.output.trans h.output, Nat.le_trans h.size hb.size, fun i hi hn => (hb.block i (Nat.lt_of_lt_of_le hi h.size)).trans (h.same i hi hn)⟩
theorem Fr.below {M : Nat → Prop} {A B : World} {n : Nat} (h : Fr M A B) (hn : n ≤ A.heap.size) (hM : ∀ i, i < n → ¬ M i) : Below n A B :=
  ⟨h.os, h.tape, h.output, h.size, fun i hi => h.same i (Nat.lt_of_lt_of_le hi hn) (hM i hi)⟩
theorem fr_below {M : Nat → Prop} {A B : World} (h : Below A.heap.size A B) : Fr M A B := (Fr.refl A).call h
theorem Fr.cell {M : Nat → Prop} {A B : World} (h : Fr M A B) {p : Addr} {v : Value} (hp : ¬ M p.block) (hc : A.cell? p = some v) : B.cell? p = some v :=
  (World.cell?_of_block (h.same _ (World.block_lt_of_cell? A p hc) hp)).trans hc
theorem Fr.frozen {M : Nat → Prop} {A B : World} (h : Fr M A B) {p : Addr} (hp : ¬ M p.block) (hc : p.block < A.heap.size) : B.frozen? p = A.frozen? p :=
  World.frozen?_of_block (h.same _ hc hp)

/-- What an iterator may turn between two rounds: the blocks O, its own blocks B .. C - 1, and what holds no cells from B on. -/
def OwnM (O : Nat → Prop) (B C : Nat) (A : World) (i : Nat) : Prop := O i ∨ (B ≤ i ∧ (i < C ∨ ∃ o : Obj, A.heap[i]? = some o ∧ o.isCells = false))
/-- What a round may turn: the blocks of M, and cells from C on. -/
def RndM (Z : Obj → Prop) (M : Nat → Prop) (C : Nat) (A : World) (i : Nat) : Prop := M i ∨ (C ≤ i ∧ ∀ o : Obj, A.heap[i]? = some o → o.isCells = true ∧ ¬ Z o)
theorem rndM_on {Z : Obj → Prop} {M : Nat → Prop} {C i : Nat} {A B : World} (e : B.heap[i]? = A.heap[i]?) : RndM Z M C B i ↔ RndM Z M C A i := by unfold RndM; rw [e]
/-- J abides what an iterator does between two rounds. -/
def Bides {β : Type} (O : Nat → Prop) (B C : Nat) (J : β → World → Prop) : Prop := ∀ s A A', J s A → Fr (OwnM O B C A) A A' → J s A'
theorem Bides.and {β : Type} {O : Nat → Prop} {B C : Nat} {J J' : β → World → Prop} (h : Bides O B C J) (h' : Bides O B C J') : Bides O B C (fun s W => J s W ∧ J' s W) := fun s A A' hs hf => ⟨h s A A' hs.1 hf, h' s A A' hs.2 hf⟩
theorem bides_pure {β : Type} (O : Nat → Prop) (B C : Nat) (p : β → Prop) : Bides O B C (fun s (_ : World) => p s) := fun _ _ _ hs _ => hs
theorem bides_below {β : Type} {O : Nat → Prop} {B C n : Nat} (hn : n ≤ B) (hO : ∀ i, i < n → ¬ O i) {w : World} (hw : n ≤ w.heap.size) : Bides (β := β) O B C (fun _ W => Below n w W) := fun _ A A' hs hf =>
  hs.trans (hf.below (Nat.le_trans hw hs.size) (fun i hi hm => by rcases hm with h | h; exact hO i hi h; have := h.1; omega))

/-- The contract of an iterator value with k blocks of its own. -/
def SeqFr {α : Type} (Z : Obj → Prop) (F : Fence) (n : Nat) (P : Program) (g : Nat) (lb : Array Value) (encs : α → Array Value) (O M : Nat → Prop) (Nx : List α → α → Prop) (S Sp : List α → Prop) (k : Nat) (w : World) : Prop :=
  ∀ (l : Nat) (J Jx : List α → World → Prop) (W : World), Below w.heap.size w W → w.heap.size ≤ l → l < W.heap.size → Bides O W.heap.size (W.heap.size + k) J → Bides O W.heap.size (W.heap.size + k) Jx →
    (∀ pre x W1, Nx pre x → J pre W1 → W.heap.size + k ≤ W1.heap.size → YieldAt F (n - 1) P l (encs x) W1 fun e W' =>
      Fr (fun i => i = l ∨ RndM Z M (W.heap.size + k) W1 i) W1 W' ∧ ((e = .returned (.bool true) ∧ J (pre ++ [x]) W') ∨ (e = .returned (.bool false) ∧ Jx (pre ++ [x]) W'))) →
    J [] W →
    CallsIn F n P g (#[.func (.yield l) #[] #[]] ++ lb) W fun e W' => (∃ v, e = .returned v) ∧ ((∃ xs, S xs ∧ J xs W') ∨ (∃ pre, Sp pre ∧ Jx pre W'))

/-- How a round's body may be left. -/
def frPost {α : Type} (Z : Obj → Prop) (M : Nat → Prop) (C : Nat) (I : List α → World → Prop) (Ix : Code → List α → World → Prop) (xs : List α) (W : World) : Exit → Act → World → Prop
  | .normal, _, W' => Fr (RndM Z M C W) W W' ∧ I xs W'
  | .ret, _, W' => Fr (RndM Z M C W) W W' ∧ Ix .ret xs W'
  | .exit id, _, W' => Fr (RndM Z M C W) W W' ∧ Ix (.exit id) xs W'
  | .goto t, _, W' => Fr (RndM Z M C W) W W' ∧ Ix (.goto t) xs W'
  | .panic _, _, _ => False
  | .outgrown, _, _ => False

theorem wpIn_rangeFunc_fr {α : Type} {Z : Obj → Prop} {F : Fence} {n : Nat} {P : Program} {g : Operand} {ps : Array Tmp} {assign body : Code} {Q : Exit → Act → World → Prop} {a : Act} {w : World}
    (hro : F.round = none) (h1 : 1 ≤ n) {gf : Nat} {lb : Array Value} (hg : a.eval g = .func (.func gf) #[] lb) (hFg : F.fn gf) (eg : ∀ args w, (callFunc gf args).run P w = .ok (.enter gf args) w)
    {encs : α → Array Value} {O M : Nat → Prop} (hOw : ∀ i, O i → i < w.heap.size) {Nx : List α → α → Prop} {S Sp : List α → Prop} {k : Nat} (hseq : SeqFr Z F (n - 1) P gf lb encs O M Nx S Sp k w) (hM : ∀ i, M i → i < w.heap.size) (hps : ∀ x, (encs x).size = ps.size)
    (I : List α → World → Prop) (Ix : Code → List α → World → Prop) (hI : Bides O w.heap.size (w.heap.size + 2 + k) I) (hIx : ∀ c, Bides O w.heap.size (w.heap.size + 2 + k) (Ix c)) (h0 : I [] w)
    (Ax : α → Act → World → Prop) (hAx : ∀ x a', Bides O w.heap.size (w.heap.size + 2 + k) (fun (_ : Unit) W => Ax x a' W))
    (hassign : ∀ (l : Nat) (pre : List α) (x : α) (W : World) (K : Act → World → Prop), Nx pre x → I pre W → w.heap.size + 2 + k ≤ W.heap.size →
      (∀ a' W', Fr (RndM Z M (w.heap.size + 2 + k) W) W W' → I pre W' → Ax x a' W' → K a' W') →
      assign.wpIn (F.inRound l) (n - 1 - 1) P (Exit.then K (fun _ _ _ => False)) { tmps := (ps.zip (encs x)).foldl (fun t (p, v) => t.setIfInBounds p v) a.tmps, defers := [] } W)
    (hbody : ∀ (l : Nat) (pre : List α) (x : α) (a' : Act) (W : World), (∃ r, W.heap[l]? = some (.loop r)) → Nx pre x → I pre W → Ax x a' W → w.heap.size + 2 + k ≤ W.heap.size →
      body.wpIn (F.inRound l) (n - 1 - 1) P (frPost Z M (w.heap.size + 2 + k) I Ix (pre ++ [x]) W) a' W)
    (hdone : ∀ (D : Nat) (xs : List α) (W : World), w.heap.size ≤ D → S xs → I xs W → W.heap[D]? = some (.deferred (some [])) → Q .normal { a with defers := { target := .collected D, args := #[] } :: a.defers } W)
    (hstop : ∀ (D : Nat) (c : Code) (pre : List α) (W : World), w.heap.size ≤ D → Sp pre → Ix c pre W → W.heap[D]? = some (.deferred (some [])) → c.wpIn F n P Q { a with defers := { target := .collected D, args := #[] } :: a.defers } W) :
    (Code.rangeFunc g ps assign body).wpIn F n P Q a w := by
  refine wpIn_rangeFunc fun fn hfn => ?_
  rw [hro]
  -- the record, in its states
  let R : LoopState → Option Code → Loop := fun st pe => { state := st, pending := pe, fn := fn, tmps := a.tmps, params := ps, assign := assign, body := body, defers := w.heap.size }
  have hR : R = fun st pe => { state := st, pending := pe, fn := fn, tmps := a.tmps, params := ps, assign := assign, body := body, defers := w.heap.size } := rfl
  clear_value R
  obtain ⟨V, hV⟩ : ∃ V, (w.alloc (.deferred (some []))).alloc (.loop (R .ready none)) = V := ⟨_, rfl⟩
  have sV : V.heap.size = w.heap.size + 2 := by rw [← hV]; simp
  have rV : V.heap[w.heap.size + 1]? = some (.loop (R .ready none)) := by
    have := World.alloc_heap_new (w.alloc (.deferred (some []))) (.loop (R .ready none))
    rw [World.size_alloc] at this
    rw [← hV]; exact this
  have dV : V.heap[w.heap.size]? = some (.deferred (some [])) := by
    rw [← hV]; exact (Below.heap_alloc _ _ _ (by simp)).trans (World.alloc_heap_new w _)
  have bV : Below w.heap.size w V := by rw [← hV]; exact ((Below.refl _ w).alloc (Nat.le_refl _) _).alloc (by simp) _
  have iV : I [] V := hI [] w V h0 (fr_below bV)
  have eV : (Instr.enterLoop fn a.tmps ps assign body none).run P w = .ok (w.heap.size + 1, [{ target := .collected w.heap.size, args := #[] }]) V := by
    rw [← hV, hR]; exact run_enterLoop_outer _ _ _ _ _
  have sR : ∀ st pe, (R st pe).state = st := by rw [hR]; intros; rfl
  have pR : ∀ st pe, (R st pe).params = ps := by rw [hR]; intros; rfl
  clear hV
  -- two facts of book-keeping that stand beside I
  have keep : ∀ (T : Nat) (o : Obj), T < w.heap.size + 2 → w.heap.size ≤ T → Bides (β := List α) O V.heap.size (V.heap.size + k) (fun _ W => W.heap[T]? = some o) := fun T o hT hT' s A A' hs hf =>
    (hf.same T (Array.getElem?_eq_some_iff.1 hs).1 (fun hm => by rcases hm with h | h; have := hOw T h; omega; have := h.1; omega)).trans hs
  have more : ∀ {J : List α → World → Prop}, Bides O w.heap.size (w.heap.size + 2 + k) J → Bides O V.heap.size (V.heap.size + k) J := fun hJ s A A' hs hf => hJ s A A' hs (hf.mono fun i _ hm => hm.elim .inl fun h => .inr ⟨by have := h.1; omega, by rw [← sV]; exact h.2⟩)
  refine ⟨w.heap.size + 1, _, V, { target := .fn (.func gf) lb, args := #[.func (.yield (w.heap.size + 1)) #[] #[]] }, V, gf, #[.func (.yield (w.heap.size + 1)) #[] #[]] ++ lb, V, eV, ?_, ?_, ?_, fun _ => h1, ?_⟩
  · simp only [resolve, hg]; simp [go_sem]
  · intro f' hf'; simp [Target.leads] at hf'; subst hf'; exact hFg
  · simp [invoke, go_sem, eg]
  refine (hseq (w.heap.size + 1)
    (fun pre W => I pre W ∧ W.heap[w.heap.size + 1]? = some (.loop (R .ready none)) ∧ W.heap[w.heap.size]? = some (.deferred (some [])))
    (fun pre W => ∃ c, Ix c pre W ∧ W.heap[w.heap.size + 1]? = some (.loop (R .done (some c))) ∧ W.heap[w.heap.size]? = some (.deferred (some [])))
    V bV (by omega) (by omega) ((more hI).and ((keep _ _ (by omega) (by omega)).and (keep _ _ (by omega) (by omega)))) ?_ ?_ ⟨iV, rV, dV⟩).mono ?_
  · rintro s A A' ⟨c, h2, h3, h4⟩ hf
    exact ⟨c, more (hIx c) s A A' h2 hf, keep _ _ (by omega) (by omega) s A A' h3 hf, keep _ _ (by omega) (by omega) s A A' h4 hf⟩
  · -- a round
    rintro pre x W hnx ⟨hi, hr, hd⟩ hsz
    rw [sV] at hsz ⊢
    have hy := run_yield (P := P) (args := encs x) hr (by rw [pR]; exact hps x)
    have hy' : (Instr.yield (w.heap.size + 1) (encs x)).run P W = .ok (.round (w.heap.size + 1) fn ((ps.zip (encs x)).foldl (fun t (p, v) => t.setIfInBounds p v) a.tmps) assign body) W := by rw [hy, hR]
    refine ⟨fn, _, assign, body, hy', roundIn_of_wpIn hfn (hassign _ pre x W _ hnx hi hsz ?_)⟩
    clear hy hy'
    intro a' Wa fa hia hxa
    have out : ∀ (X : World) (T : Nat), T < w.heap.size + 2 → w.heap.size ≤ T → ¬ RndM Z M (w.heap.size + 2 + k) X T := fun X T h2 h3 hm => by
      rcases hm with h | h
      · have := hM T h; omega
      · omega
    have at' : ∀ {X Y : World} {T : Nat} {o : Obj}, Fr (RndM Z M (w.heap.size + 2 + k) X) X Y → T < w.heap.size + 2 → w.heap.size ≤ T → X.heap[T]? = some o → Y.heap[T]? = some o := fun hf h2 h3 ho =>
      (hf.same _ (Array.getElem?_eq_some_iff.1 ho).1 (out _ _ h2 h3)).trans ho
    have hra := at' fa (by omega) (by omega) hr
    have hda := at' fa (by omega) (by omega) hd
    have la := (Array.getElem?_eq_some_iff.1 hra).1
    refine ⟨_, run_beginRound hra (by rw [sR]), ?_⟩
    have e2 : ({ R .ready none with state := .busy } : Loop) = R .busy none := by rw [hR]
    rw [e2]
    obtain ⟨Wb, hWb⟩ : ∃ Wb, Wa.putObj (w.heap.size + 1) (.loop (R .busy none)) = Wb := ⟨_, rfl⟩
    have fb : Fr (fun i => i = w.heap.size + 1) Wa Wb := by rw [← hWb]; exact Fr.put _ _ _
    have hrb : Wb.heap[w.heap.size + 1]? = some (.loop (R .busy none)) := by rw [← hWb]; exact World.putObj_heap_same la
    have hdb : Wb.heap[w.heap.size]? = some (.deferred (some [])) := by rw [← hWb]; exact (World.putObj_heap_other (by omega)).trans hda
    rw [hWb]
    clear hWb
    have own : ∀ (X : World) (i : Nat), i = w.heap.size + 1 → OwnM O w.heap.size (w.heap.size + 2 + k) X i := fun X i e => .inr ⟨by omega, .inl (by omega)⟩
    refine wpIn_mono (hbody _ pre x a' Wb ⟨_, hrb⟩ hnx (hI _ _ _ hia (fb.mono fun i _ e => own _ i e)) (hAx x a' () _ _ hxa (fb.mono fun i _ e => own _ i e)) (by have := fa.size; have := fb.size; omega)) ?_
    have fin : ∀ (jump : Option Code) (Wc : World), Fr (RndM Z M (w.heap.size + 2 + k) Wb) Wb Wc → ∃ Wd,
        (Instr.endRound (w.heap.size + 1) jump).run P Wc = .ok (.bool jump.isNone) Wd ∧ Fr (OwnM O w.heap.size (w.heap.size + 2 + k) Wc) Wc Wd ∧
        Fr (fun i => i = w.heap.size + 1 ∨ RndM Z M (w.heap.size + 2 + k) W i) W Wd ∧ Wd.heap[w.heap.size + 1]? = some (.loop (R (if jump.isNone then .ready else .done) jump)) ∧ Wd.heap[w.heap.size]? = some (.deferred (some [])) := fun jump Wc fc => by
      have hrc := at' fc (by omega) (by omega) hrb
      have hdc := at' fc (by omega) (by omega) hdb
      have e3 : ({ R .busy none with state := if jump.isNone then .ready else .done, pending := jump } : Loop) = R (if jump.isNone then .ready else .done) jump := by rw [hR]
      have := run_endRound (P := P) jump hrc
      rw [e3] at this
      refine ⟨_, this, (Fr.put _ _ _).mono fun i _ e => own _ i e, ?_, World.putObj_heap_same (Array.getElem?_eq_some_iff.1 hrc).1, (World.putObj_heap_other (by omega)).trans hdc⟩
      have g1 : Fr (fun i => i = w.heap.size + 1 ∨ RndM Z M (w.heap.size + 2 + k) W i) W Wa := fa.mono fun i _ h => .inr h
      have g2 := g1.then fb (fun i _ hn _ e => hn (.inl e))
      have g3 := g2.then fc (fun i _ hn e hm => hn (.inr ((rndM_on e).1 hm)))
      exact g3.then (Fr.put Wc _ _) (fun i _ hn _ e => hn (.inl e))
    rintro e a3 Wc hp
    cases e with
    | normal =>
      obtain ⟨Wd, q1, q2, q3, q4, q5⟩ := fin none Wc hp.1
      exact ⟨_, _, q1, q3, .inl ⟨rfl, hI _ _ _ hp.2 q2, q4, q5⟩⟩
    | ret =>
      obtain ⟨Wd, q1, q2, q3, q4, q5⟩ := fin (some .ret) Wc hp.1
      exact ⟨_, _, q1, q3, .inr ⟨rfl, .ret, hIx _ _ _ _ hp.2 q2, q4, q5⟩⟩
    | exit id =>
      obtain ⟨Wd, q1, q2, q3, q4, q5⟩ := fin (some (.exit id)) Wc hp.1
      exact ⟨_, _, q1, q3, .inr ⟨rfl, .exit id, hIx _ _ _ _ hp.2 q2, q4, q5⟩⟩
    | goto t =>
      obtain ⟨Wd, q1, q2, q3, q4, q5⟩ := fin (some (.goto t)) Wc hp.1
      exact ⟨_, _, q1, q3, .inr ⟨rfl, .goto t, hIx _ _ _ _ hp.2 q2, q4, q5⟩⟩
    | panic ch => exact hp.elim
    | outgrown => exact hp.elim
  · -- behind the iterator
    have e4 : ∀ st pe, ({ R st pe with state := .exhausted } : Loop) = R .exhausted pe := by rw [hR]; intros; rfl
    have own : ∀ (X : World) (i : Nat), i = w.heap.size + 1 → OwnM O w.heap.size (w.heap.size + 2 + k) X i := fun X i e => .inr ⟨by omega, .inl (by omega)⟩
    have pe : ∀ st pe, (R st pe).pending = pe := by rw [hR]; intros; rfl
    rintro e W2 ⟨⟨v, rfl⟩, (⟨xs, hS, hi, hl, hk⟩ | ⟨pre, hSp, c, hi, hl, hk⟩)⟩
    · have := run_endLoop (P := P) hl (by rw [sR]; simp)
      rw [pe] at this
      exact ⟨none, _, this, hdone _ xs _ (Nat.le_refl _) hS (hI _ _ _ hi ((Fr.put _ _ _).mono fun i _ e => own _ i e)) ((World.putObj_heap_other (by omega)).trans hk)⟩
    · have := run_endLoop (P := P) hl (by rw [sR]; simp)
      rw [pe] at this
      exact ⟨some c, _, this, hstop _ c pre _ (Nat.le_refl _) hSp (hIx c _ _ _ hi ((Fr.put _ _ _).mono fun i _ e => own _ i e)) ((World.putObj_heap_other (by omega)).trans hk)⟩
end Go.Proofs.Ytbjdojcenflliaa
