/- A range over an iterator whose rounds turn some named blocks alone: the iterator may call itself. After L8's Itz. -/
import Derived.Test.YtbjdojcenflliaaItz
namespace Go.Proofs.Ytbjdojcenflliaa
open Go.RowKit

/-- What holds no cells, from a block on. -/
def NcM (B : Nat) (A : World) (i : Nat) : Prop := B ≤ i ∧ ∃ o : Obj, A.heap[i]? = some o ∧ o.isCells = false
/-- J abides what an iterator does between two rounds: new blocks, and turns of what holds no cells from B on. -/
def BidesN {β : Type} (B : Nat) (J : β → World → Prop) : Prop := ∀ s A A', J s A → Fr (NcM B A) A A' → J s A'
theorem BidesN.and {β : Type} {B : Nat} {J J' : β → World → Prop} (h : BidesN B J) (h' : BidesN B J') : BidesN B (fun s W => J s W ∧ J' s W) := fun s A A' hs hf => ⟨h s A A' hs.1 hf, h' s A A' hs.2 hf⟩
theorem BidesN.more {β : Type} {B C : Nat} {J : β → World → Prop} (h : BidesN B J) (hBC : B ≤ C) : BidesN C J := fun s A A' hs hf => h s A A' hs (hf.mono fun _ _ hm => ⟨Nat.le_trans hBC hm.1, hm.2⟩)
/-- The contract of an iterator value. -/
def SeqM {α : Type} (F : Fence) (n : Nat) (P : Program) (g : Nat) (lb : Array Value) (encs : α → Array Value) (M : Nat → Prop) (Nx : List α → α → Prop) (S Sp : List α → Prop) (w : World) : Prop :=
  ∀ (l : Nat) (J Jx : List α → World → Prop) (W : World), Below w.heap.size w W → w.heap.size ≤ l → l < W.heap.size → BidesN W.heap.size J → BidesN W.heap.size Jx →
    (∀ pre x W1, Nx pre x → J pre W1 → W.heap.size ≤ W1.heap.size → YieldAt F (n - 1) P l (encs x) W1 fun e W' =>
      Fr (fun i => i = l ∨ M i) W1 W' ∧ ((e = .returned (.bool true) ∧ J (pre ++ [x]) W') ∨ (e = .returned (.bool false) ∧ Jx (pre ++ [x]) W'))) →
    J [] W →
    CallsIn F n P g (#[.func (.yield l) #[] #[]] ++ lb) W fun e W' => (∃ v, e = .returned v) ∧ ((∃ xs, S xs ∧ J xs W') ∨ (∃ pre, Sp pre ∧ Jx pre W'))
/-- How a round's body may be left. -/
def mPost {α : Type} (M : Nat → Prop) (I : List α → World → Prop) (Ix : Code → List α → World → Prop) (xs : List α) (W : World) : Exit → Act → World → Prop
  | .normal, _, W' => Fr M W W' ∧ I xs W'
  | .ret, _, W' => Fr M W W' ∧ Ix .ret xs W'
  | .exit id, _, W' => Fr M W W' ∧ Ix (.exit id) xs W'
  | .goto t, _, W' => Fr M W W' ∧ Ix (.goto t) xs W'
  | .panic _, _, _ => False
  | .outgrown, _, _ => False

theorem wpIn_rangeFunc_m {α : Type} {F : Fence} {n : Nat} {P : Program} {g : Operand} {ps : Array Tmp} {assign body : Code} {Q : Exit → Act → World → Prop} {a : Act} {w : World}
    (hro : F.round = none) (h1 : F.depth.isSome = true → 1 ≤ n) {gf : Nat} {lb : Array Value} (hg : a.eval g = .func (.func gf) #[] lb) (hFg : F.fn gf) (eg : ∀ args w, (callFunc gf args).run P w = .ok (.enter gf args) w)
    {encs : α → Array Value} {M : Nat → Prop} {Nx : List α → α → Prop} {S Sp : List α → Prop} (hseq : SeqM F (n - 1) P gf lb encs M Nx S Sp w) (hM : ∀ i, M i → i < w.heap.size) (hps : ∀ x, (encs x).size = ps.size)
    (I : List α → World → Prop) (Ix : Code → List α → World → Prop) (hI : BidesN w.heap.size I) (hIx : ∀ c, BidesN w.heap.size (Ix c)) (h0 : I [] w)
    (a₁ : α → Act)
    (hassign : ∀ (l : Nat) (x : α) (W : World) (K : Act → World → Prop), K (a₁ x) W →
      assign.wpIn (F.inRound l) (n - 1 - 1) P (Exit.then K (fun _ _ _ => False)) { tmps := (ps.zip (encs x)).foldl (fun t (p, v) => t.setIfInBounds p v) a.tmps, defers := [] } W)
    (hbody : ∀ (l : Nat) (pre : List α) (x : α) (W : World), w.heap.size ≤ l → Nx pre x → I pre W → w.heap.size + 2 ≤ W.heap.size →
      body.wpIn (F.inRound l) (n - 1 - 1) P (mPost M I Ix (pre ++ [x]) W) (a₁ x) W)
    (hdone : ∀ (D : Nat) (xs : List α) (W : World), w.heap.size ≤ D → S xs → I xs W → W.heap[D]? = some (.deferred (some [])) → Q .normal { a with defers := { target := .collected D, args := #[] } :: a.defers } W)
    (hstop : ∀ (D : Nat) (c : Code) (pre : List α) (W : World), w.heap.size ≤ D → Sp pre → Ix c pre W → W.heap[D]? = some (.deferred (some [])) → c.wpIn F n P Q { a with defers := { target := .collected D, args := #[] } :: a.defers } W) :
    (Code.rangeFunc g ps assign body).wpIn F n P Q a w := by
  refine wpIn_rangeFunc fun fn hfn => ?_
  rw [hro]
  -- the record, in its states
  let R : LoopState → Option Code → Loop := fun st pe => { state := st, pending := pe, fn := fn, tmps := a.tmps, params := ps, assign := assign, body := body, defers := w.heap.size }
  have hR : R = fun st pe => { state := st, pending := pe, fn := fn, tmps := a.tmps, params := ps, assign := assign, body := body, defers := w.heap.size } := rfl
  clear_value R
  obtain ⟨V, hV⟩ : ∃ V, (w.alloc (.deferred (some []))).alloc (.loop (R .ready none)) = V := ⟨_, rfl⟩
  have sV : V.heap.size = w.heap.size + 2 := by rw [← hV]; simp
  have rV : V.heap[w.heap.size + 1]? = some (.loop (R .ready none)) := by
    have := World.alloc_heap_new (w.alloc (.deferred (some []))) (.loop (R .ready none))
    rw [World.size_alloc] at this
    rw [← hV]; exact this
  have dV : V.heap[w.heap.size]? = some (.deferred (some [])) := by
    rw [← hV]; exact (Below.heap_alloc _ _ _ (by simp)).trans (World.alloc_heap_new w _)
  have bV : Below w.heap.size w V := by rw [← hV]; exact ((Below.refl _ w).alloc (Nat.le_refl _) _).alloc (by simp) _
  have iV : I [] V := hI [] w V h0 (fr_below bV)
  have eV : (Instr.enterLoop fn a.tmps ps assign body none).run P w = .ok (w.heap.size + 1, [{ target := .collected w.heap.size, args := #[] }]) V := by
    rw [← hV, hR]; exact run_enterLoop_outer _ _ _ _ _
  have sR : ∀ st pe, (R st pe).state = st := by rw [hR]; intros; rfl
  have pR : ∀ st pe, (R st pe).params = ps := by rw [hR]; intros; rfl
  clear hV
  -- two facts of book-keeping that stand beside I
  have keep : ∀ (T : Nat) (o : Obj), T < w.heap.size + 2 → BidesN (β := List α) V.heap.size (fun _ W => W.heap[T]? = some o) := fun T o hT s A A' hs hf =>
    (hf.same T (Array.getElem?_eq_some_iff.1 hs).1 (fun hm => by have := hm.1; omega)).trans hs
  have le2 : w.heap.size ≤ V.heap.size := by omega
  have own : ∀ (X : World) (i : Nat) (r : Loop), X.heap[w.heap.size + 1]? = some (.loop r) → i = w.heap.size + 1 → NcM w.heap.size X i := fun X i r hr e => by subst e; exact ⟨by omega, _, hr, rfl⟩
  refine ⟨w.heap.size + 1, _, V, { target := .fn (.func gf) lb, args := #[.func (.yield (w.heap.size + 1)) #[] #[]] }, V, gf, #[.func (.yield (w.heap.size + 1)) #[] #[]] ++ lb, V, eV, ?_, ?_, ?_, h1, ?_⟩
  · simp only [resolve, hg]; simp [go_sem]
  · intro f' hf'; simp [Target.leads] at hf'; subst hf'; exact hFg
  · simp [invoke, go_sem, eg]
  refine (hseq (w.heap.size + 1)
    (fun pre W => I pre W ∧ W.heap[w.heap.size + 1]? = some (.loop (R .ready none)) ∧ W.heap[w.heap.size]? = some (.deferred (some [])))
    (fun pre W => ∃ c, Ix c pre W ∧ W.heap[w.heap.size + 1]? = some (.loop (R .done (some c))) ∧ W.heap[w.heap.size]? = some (.deferred (some [])))
    V bV (by omega) (by omega) ((hI.more le2).and ((keep _ _ (by omega)).and (keep _ _ (by omega)))) ?_ ?_ ⟨iV, rV, dV⟩).mono ?_
  · rintro s A A' ⟨c, h2, h3, h4⟩ hf
    exact ⟨c, (hIx c).more le2 s A A' h2 hf, keep _ _ (by omega) s A A' h3 hf, keep _ _ (by omega) s A A' h4 hf⟩
  · -- a round
    rintro pre x W hnx ⟨hi, hr, hd⟩ hsz
    rw [sV] at hsz
    have hy := run_yield (P := P) (args := encs x) hr (by rw [pR]; exact hps x)
    have hy' : (Instr.yield (w.heap.size + 1) (encs x)).run P W = .ok (.round (w.heap.size + 1) fn ((ps.zip (encs x)).foldl (fun t (p, v) => t.setIfInBounds p v) a.tmps) assign body) W := by rw [hy, hR]
    refine ⟨fn, _, assign, body, hy', roundIn_of_wpIn hfn (hassign _ x W _ ?_)⟩
    clear hy hy'
    have at' : ∀ {X Y : World} {T : Nat} {o : Obj}, Fr M X Y → T < w.heap.size + 2 → w.heap.size ≤ T → X.heap[T]? = some o → Y.heap[T]? = some o := fun hf h2 h3 ho =>
      (hf.same _ (Array.getElem?_eq_some_iff.1 ho).1 (fun hm => by have := hM _ hm; omega)).trans ho
    have la := (Array.getElem?_eq_some_iff.1 hr).1
    refine ⟨_, run_beginRound hr (by rw [sR]), ?_⟩
    have e2 : ({ R .ready none with state := .busy } : Loop) = R .busy none := by rw [hR]
    rw [e2]
    obtain ⟨Wb, hWb⟩ : ∃ Wb, W.putObj (w.heap.size + 1) (.loop (R .busy none)) = Wb := ⟨_, rfl⟩
    have fb : Fr (fun i => i = w.heap.size + 1) W Wb := by rw [← hWb]; exact Fr.put _ _ _
    have hrb : Wb.heap[w.heap.size + 1]? = some (.loop (R .busy none)) := by rw [← hWb]; exact World.putObj_heap_same la
    have hdb : Wb.heap[w.heap.size]? = some (.deferred (some [])) := by rw [← hWb]; exact (World.putObj_heap_other (by omega)).trans hd
    rw [hWb]
    clear hWb
    refine wpIn_mono (hbody _ pre x Wb (by omega) hnx (hI _ _ _ hi (fb.mono fun i _ e => own _ i _ hr e)) (by have := fb.size; omega)) ?_
    have fin : ∀ (jump : Option Code) (Wc : World), Fr M Wb Wc → ∃ Wd,
        (Instr.endRound (w.heap.size + 1) jump).run P Wc = .ok (.bool jump.isNone) Wd ∧ Fr (NcM w.heap.size Wc) Wc Wd ∧
        Fr (fun i => i = w.heap.size + 1 ∨ M i) W Wd ∧ Wd.heap[w.heap.size + 1]? = some (.loop (R (if jump.isNone then .ready else .done) jump)) ∧ Wd.heap[w.heap.size]? = some (.deferred (some [])) := fun jump Wc fc => by
      have hrc := at' fc (by omega) (by omega) hrb
      have hdc := at' fc (by omega) (by omega) hdb
      have e3 : ({ R .busy none with state := if jump.isNone then .ready else .done, pending := jump } : Loop) = R (if jump.isNone then .ready else .done) jump := by rw [hR]
      have := run_endRound (P := P) jump hrc
      rw [e3] at this
      refine ⟨_, this, (Fr.put _ _ _).mono fun i _ e => own _ i _ hrc e, ?_, World.putObj_heap_same (Array.getElem?_eq_some_iff.1 hrc).1, (World.putObj_heap_other (by omega)).trans hdc⟩
      have g2 : Fr (fun i => i = w.heap.size + 1 ∨ M i) W Wb := fb.mono fun i _ e => .inl e
      have g3 := g2.then fc (fun i _ hn _ hm => hn (.inr hm))
      exact g3.then (Fr.put Wc _ _) (fun i _ hn _ e => hn (.inl e))
    rintro e a3 Wc hp
    cases e with
    | normal =>
      obtain ⟨Wd, q1, q2, q3, q4, q5⟩ := fin none Wc hp.1
      exact ⟨_, _, q1, q3, .inl ⟨rfl, hI _ _ _ hp.2 q2, q4, q5⟩⟩
    | ret =>
      obtain ⟨Wd, q1, q2, q3, q4, q5⟩ := fin (some .ret) Wc hp.1
      exact ⟨_, _, q1, q3, .inr ⟨rfl, .ret, hIx _ _ _ _ hp.2 q2, q4, q5⟩⟩
    | exit id =>
      obtain ⟨Wd, q1, q2, q3, q4, q5⟩ := fin (some (.exit id)) Wc hp.1
      exact ⟨_, _, q1, q3, .inr ⟨rfl, .exit id, hIx _ _ _ _ hp.2 q2, q4, q5⟩⟩
    | goto t =>
      obtain ⟨Wd, q1, q2, q3, q4, q5⟩ := fin (some (.goto t)) Wc hp.1
      exact ⟨_, _, q1, q3, .inr ⟨rfl, .goto t, hIx _ _ _ _ hp.2 q2, q4, q5⟩⟩
    | panic ch => exact hp.elim
    | outgrown => exact hp.elim
  · -- behind the iterator
    have pe : ∀ st pe, (R st pe).pending = pe := by rw [hR]; intros; rfl
    rintro e W2 ⟨⟨v, rfl⟩, (⟨xs, hS, hi, hl, hk⟩ | ⟨pre, hSp, c, hi, hl, hk⟩)⟩
    · have := run_endLoop (P := P) hl (by rw [sR]; simp)
      rw [pe] at this
      exact ⟨none, _, this, hdone _ xs _ (Nat.le_refl _) hS (hI _ _ _ hi ((Fr.put _ _ _).mono fun i _ e => own _ i _ hl e)) ((World.putObj_heap_other (by omega)).trans hk)⟩
    · have := run_endLoop (P := P) hl (by rw [sR]; simp)
      rw [pe] at this
      exact ⟨some c, _, this, hstop _ c pre _ (Nat.le_refl _) hSp (hIx c _ _ _ hi ((Fr.put _ _ _).mono fun i _ e => own _ i _ hl e)) ((World.putObj_heap_other (by omega)).trans hk)⟩
end Go.Proofs.Ytbjdojcenflliaa
