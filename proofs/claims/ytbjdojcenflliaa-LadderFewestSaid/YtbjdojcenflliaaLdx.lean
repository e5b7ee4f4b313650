/- A range over an iterator whose body is left in its first round, and what comes is told by the world: the law outside and inside a round. After L7's Gim. -/
import Derived.Test.YtbjdojcenflliaaGim
namespace Go.Proofs.Ytbjdojcenflliaa
open Go.RowKit

/-- The contract of an iterator that comes to at least one round, which is its last. -/
def SeqX {α : Type} (F : Fence) (n : Nat) (P : Program) (g : Nat) (lb : Array Value) (encs : α → Array Value) (M : Nat → Prop) (X : α → World → Prop) (w : World) : Prop :=
  ∀ (l : Nat) (J Jx : Unit → World → Prop) (W : World), Below w.heap.size w W → w.heap.size ≤ l → l < W.heap.size → BidesN W.heap.size J → BidesN W.heap.size Jx →
    (∀ x W1, X x W1 → J () W1 → W.heap.size ≤ W1.heap.size → YieldAt F (n - 1) P l (encs x) W1 fun e W' => Fr (fun i => i = l ∨ M i) W1 W' ∧ e = .returned (.bool false) ∧ Jx () W') →
    J () W →
    CallsIn F n P g (#[.func (.yield l) #[] #[]] ++ lb) W fun e W' => (∃ v, e = .returned v) ∧ Jx () W'
/-- How the round's body may be left. -/
def xPost (M : Nat → Prop) (Ix : Code → World → Prop) (W : World) : Exit → Act → World → Prop
  | .normal, _, _ => False
  | .ret, _, W' => Fr M W W' ∧ Ix .ret W'
  | .exit id, _, W' => Fr M W W' ∧ Ix (.exit id) W'
  | .goto t, _, W' => Fr M W W' ∧ Ix (.goto t) W'
  | .panic _, _, _ => False
  | .outgrown, _, _ => False
theorem wpIn_rangeFunc_x {α : Type} {F : Fence} {n : Nat} {P : Program} {g : Operand} {ps : Array Tmp} {assign body : Code} {Q : Exit → Act → World → Prop} {a : Act} {w : World}
    (hro : F.round = none) (h1 : F.depth.isSome = true → 1 ≤ n) {gf : Nat} {lb : Array Value} (hg : a.eval g = .func (.func gf) #[] lb) (hFg : F.fn gf) (eg : ∀ args w, (callFunc gf args).run P w = .ok (.enter gf args) w)
    {encs : α → Array Value} {M : Nat → Prop} {X : α → World → Prop} (hseq : SeqX F (n - 1) P gf lb encs M X w) (hM : ∀ i, M i → i < w.heap.size) (hps : ∀ x, (encs x).size = ps.size)
    (I : World → Prop) (Ix : Code → World → Prop) (hI : BidesN (β := Unit) w.heap.size (fun _ W => I W)) (hIx : ∀ c, BidesN (β := Unit) w.heap.size (fun _ W => Ix c W)) (hX : ∀ x, BidesN (β := Unit) w.heap.size (fun _ W => X x W)) (h0 : I w)
    (a₁ : α → Act)
    (hassign : ∀ (l : Nat) (x : α) (W : World) (K : Act → World → Prop), K (a₁ x) W →
      assign.wpIn (F.inRound l) (n - 1 - 1) P (Exit.then K (fun _ _ _ => False)) { tmps := (ps.zip (encs x)).foldl (fun t (p, v) => t.setIfInBounds p v) a.tmps, defers := [] } W)
    (hbody : ∀ (l : Nat) (x : α) (W : World), w.heap.size ≤ l → (∃ r, W.heap[l]? = some (.loop r)) → X x W → I W → w.heap.size + 2 ≤ W.heap.size →
      body.wpIn (F.inRound l) (n - 1 - 1) P (xPost M Ix W) (a₁ x) W)
    (hstop : ∀ (D : Nat) (c : Code) (W : World), w.heap.size ≤ D → Ix c W → W.heap[D]? = some (.deferred (some [])) → c.wpIn F n P Q { a with defers := { target := .collected D, args := #[] } :: a.defers } W) :
    (Code.rangeFunc g ps assign body).wpIn F n P Q a w := by
  refine wpIn_rangeFunc fun fn hfn => ?_
  rw [hro]
  let R : LoopState → Option Code → Loop := fun st pe => { state := st, pending := pe, fn := fn, tmps := a.tmps, params := ps, assign := assign, body := body, defers := w.heap.size }
  have hR : R = fun st pe => { state := st, pending := pe, fn := fn, tmps := a.tmps, params := ps, assign := assign, body := body, defers := w.heap.size } := rfl
  clear_value R
  obtain ⟨V, hV⟩ : ∃ V, (w.alloc (.deferred (some []))).alloc (.loop (R .ready none)) = V := ⟨_, rfl⟩
  have sV : V.heap.size = w.heap.size + 2 := by rw [← hV]; simp
  have rV : V.heap[w.heap.size + 1]? = some (.loop (R .ready none)) := by
    have := World.alloc_heap_new (w.alloc (.deferred (some []))) (.loop (R .ready none))
    rw [World.size_alloc] at this
    rw [← hV]; exact this
  have dV : V.heap[w.heap.size]? = some (.deferred (some [])) := by
    rw [← hV]; exact (Below.heap_alloc _ _ _ (by simp)).trans (World.alloc_heap_new w _)
  have bV : Below w.heap.size w V := by rw [← hV]; exact ((Below.refl _ w).alloc (Nat.le_refl _) _).alloc (by simp) _
  have iV : I V := hI () w V h0 (fr_below bV)
  have eV : (Instr.enterLoop fn a.tmps ps assign body none).run P w = .ok (w.heap.size + 1, [{ target := .collected w.heap.size, args := #[] }]) V := by
    rw [← hV, hR]; exact run_enterLoop_outer _ _ _ _ _
  have sR : ∀ st pe, (R st pe).state = st := by rw [hR]; intros; rfl
  have pR : ∀ st pe, (R st pe).params = ps := by rw [hR]; intros; rfl
  clear hV
  have keep : ∀ (T : Nat) (o : Obj), T < w.heap.size + 2 → BidesN (β := Unit) V.heap.size (fun _ W => W.heap[T]? = some o) := fun T o hT s A A' hs hf =>
    (hf.same T (Array.getElem?_eq_some_iff.1 hs).1 (fun hm => by have := hm.1; omega)).trans hs
  have le2 : w.heap.size ≤ V.heap.size := by omega
  have own : ∀ (X : World) (i : Nat) (r : Loop), X.heap[w.heap.size + 1]? = some (.loop r) → i = w.heap.size + 1 → NcM w.heap.size X i := fun X i r hr e => by subst e; exact ⟨by omega, _, hr, rfl⟩
  refine ⟨w.heap.size + 1, _, V, { target := .fn (.func gf) lb, args := #[.func (.yield (w.heap.size + 1)) #[] #[]] }, V, gf, #[.func (.yield (w.heap.size + 1)) #[] #[]] ++ lb, V, eV, ?_, ?_, ?_, h1, ?_⟩
  · simp only [resolve, hg]; simp [go_sem]
  · intro f' hf'; simp [Target.leads] at hf'; subst hf'; exact hFg
  · simp [invoke, go_sem, eg]
  refine (hseq (w.heap.size + 1)
    (fun _ W => I W ∧ W.heap[w.heap.size + 1]? = some (.loop (R .ready none)) ∧ W.heap[w.heap.size]? = some (.deferred (some [])))
    (fun _ W => ∃ c, Ix c W ∧ W.heap[w.heap.size + 1]? = some (.loop (R .done (some c))) ∧ W.heap[w.heap.size]? = some (.deferred (some [])))
    V bV (by omega) (by omega) ((hI.more le2).and ((keep _ _ (by omega)).and (keep _ _ (by omega)))) ?_ ?_ ⟨iV, rV, dV⟩).mono ?_
  · rintro s A A' ⟨c, h2, h3, h4⟩ hf
    exact ⟨c, (hIx c).more le2 s A A' h2 hf, keep _ _ (by omega) s A A' h3 hf, keep _ _ (by omega) s A A' h4 hf⟩
  · rintro x W hx ⟨hi, hr, hd⟩ hsz
    rw [sV] at hsz
    have hy := run_yield (P := P) (args := encs x) hr (by rw [pR]; exact hps x)
    have hy' : (Instr.yield (w.heap.size + 1) (encs x)).run P W = .ok (.round (w.heap.size + 1) fn ((ps.zip (encs x)).foldl (fun t (p, v) => t.setIfInBounds p v) a.tmps) assign body) W := by rw [hy, hR]
    refine ⟨fn, _, assign, body, hy', roundIn_of_wpIn hfn (hassign _ x W _ ?_)⟩
    clear hy hy'
    have at' : ∀ {X Y : World} {T : Nat} {o : Obj}, Fr M X Y → T < w.heap.size + 2 → w.heap.size ≤ T → X.heap[T]? = some o → Y.heap[T]? = some o := fun hf h2 h3 ho =>
      (hf.same _ (Array.getElem?_eq_some_iff.1 ho).1 (fun hm => by have := hM _ hm; omega)).trans ho
    have la := (Array.getElem?_eq_some_iff.1 hr).1
    refine ⟨_, run_beginRound hr (by rw [sR]), ?_⟩
    have e2 : ({ R .ready none with state := .busy } : Loop) = R .busy none := by rw [hR]
    rw [e2]
    obtain ⟨Wb, hWb⟩ : ∃ Wb, W.putObj (w.heap.size + 1) (.loop (R .busy none)) = Wb := ⟨_, rfl⟩
    have fb : Fr (fun i => i = w.heap.size + 1) W Wb := by rw [← hWb]; exact Fr.put _ _ _
    have hrb : Wb.heap[w.heap.size + 1]? = some (.loop (R .busy none)) := by rw [← hWb]; exact World.putObj_heap_same la
    have hdb : Wb.heap[w.heap.size]? = some (.deferred (some [])) := by rw [← hWb]; exact (World.putObj_heap_other (by omega)).trans hd
    rw [hWb]
    clear hWb
    refine wpIn_mono (hbody _ x Wb (by omega) ⟨_, hrb⟩ (hX x () _ _ hx (fb.mono fun i _ e => own _ i _ hr e)) (hI () _ _ hi (fb.mono fun i _ e => own _ i _ hr e)) (by have := fb.size; omega)) ?_
    have fin : ∀ (jump : Option Code) (Wc : World), Fr M Wb Wc → ∃ Wd,
        (Instr.endRound (w.heap.size + 1) jump).run P Wc = .ok (.bool jump.isNone) Wd ∧ Fr (NcM w.heap.size Wc) Wc Wd ∧
        Fr (fun i => i = w.heap.size + 1 ∨ M i) W Wd ∧ Wd.heap[w.heap.size + 1]? = some (.loop (R (if jump.isNone then .ready else .done) jump)) ∧ Wd.heap[w.heap.size]? = some (.deferred (some [])) := fun jump Wc fc => by
      have hrc := at' fc (by omega) (by omega) hrb
      have hdc := at' fc (by omega) (by omega) hdb
      have e3 : ({ R .busy none with state := if jump.isNone then .ready else .done, pending := jump } : Loop) = R (if jump.isNone then .ready else .done) jump := by rw [hR]
      have := run_endRound (P := P) jump hrc
      rw [e3] at this
      refine ⟨_, this, (Fr.put _ _ _).mono fun i _ e => own _ i _ hrc e, ?_, World.putObj_heap_same (Array.getElem?_eq_some_iff.1 hrc).1, (World.putObj_heap_other (by omega)).trans hdc⟩
      have g2 : Fr (fun i => i = w.heap.size + 1 ∨ M i) W Wb := fb.mono fun i _ e => .inl e
      have g3 := g2.then fc (fun i _ hn _ hm => hn (.inr hm))
      exact g3.then (Fr.put Wc _ _) (fun i _ hn _ e => hn (.inl e))
    rintro e a3 Wc hp
    cases e with
    | normal => exact hp.elim
    | ret =>
      obtain ⟨Wd, q1, q2, q3, q4, q5⟩ := fin (some .ret) Wc hp.1
      exact ⟨_, _, q1, q3, rfl, .ret, hIx _ () _ _ hp.2 q2, q4, q5⟩
    | exit id =>
      obtain ⟨Wd, q1, q2, q3, q4, q5⟩ := fin (some (.exit id)) Wc hp.1
      exact ⟨_, _, q1, q3, rfl, .exit id, hIx _ () _ _ hp.2 q2, q4, q5⟩
    | goto t =>
      obtain ⟨Wd, q1, q2, q3, q4, q5⟩ := fin (some (.goto t)) Wc hp.1
      exact ⟨_, _, q1, q3, rfl, .goto t, hIx _ () _ _ hp.2 q2, q4, q5⟩
    | panic ch => exact hp.elim
    | outgrown => exact hp.elim
  · have pe : ∀ st pe, (R st pe).pending = pe := by rw [hR]; intros; rfl
    rintro e W2 ⟨⟨v, rfl⟩, c, hi, hl, hk⟩
    have := run_endLoop (P := P) hl (by rw [sR]; simp)
    rw [pe] at this
    exact ⟨some c, _, this, hstop _ c _ (Nat.le_refl _) (hIx c () _ _ hi ((Fr.put _ _ _).mono fun i _ e => own _ i _ hl e)) ((World.putObj_heap_other (by omega)).trans hk)⟩
theorem wpIn_rangeFunc_xN {α : Type} {F : Fence} {n : Nat} {P : Program} {g : Operand} {ps : Array Tmp} {assign body : Code} {Q : Exit → Act → World → Prop} {a : Act} {w : World}
    {l₀ : Nat} {r₀ : Loop} (hro : F.round = some l₀) (hl₀ : w.heap[l₀]? = some (.loop r₀)) (h1 : F.depth.isSome = true → 1 ≤ n) {gf : Nat} {lb : Array Value} (hg : a.eval g = .func (.func gf) #[] lb) (hFg : F.fn gf) (eg : ∀ args w, (callFunc gf args).run P w = .ok (.enter gf args) w)
    {encs : α → Array Value} {M : Nat → Prop} {X : α → World → Prop} (hseq : SeqX F (n - 1) P gf lb encs M X w) (hM : ∀ i, M i → i < w.heap.size) (hps : ∀ x, (encs x).size = ps.size)
    (I : World → Prop) (Ix : Code → World → Prop) (hI : BidesN (β := Unit) w.heap.size (fun _ W => I W)) (hIx : ∀ c, BidesN (β := Unit) w.heap.size (fun _ W => Ix c W)) (hX : ∀ x, BidesN (β := Unit) w.heap.size (fun _ W => X x W)) (h0 : I w)
    (a₁ : α → Act)
    (hassign : ∀ (l : Nat) (x : α) (W : World) (K : Act → World → Prop), K (a₁ x) W →
      assign.wpIn (F.inRound l) (n - 1 - 1) P (Exit.then K (fun _ _ _ => False)) { tmps := (ps.zip (encs x)).foldl (fun t (p, v) => t.setIfInBounds p v) a.tmps, defers := [] } W)
    (hbody : ∀ (l : Nat) (x : α) (W : World), w.heap.size ≤ l → (∃ r, W.heap[l]? = some (.loop r)) → X x W → I W → w.heap.size + 1 ≤ W.heap.size →
      body.wpIn (F.inRound l) (n - 1 - 1) P (xPost M Ix W) (a₁ x) W)
    (hstop : ∀ (c : Code) (W : World), Ix c W → c.wpIn F n P Q a W) :
    (Code.rangeFunc g ps assign body).wpIn F n P Q a w := by
  refine wpIn_rangeFunc fun fn hfn => ?_
  rw [hro]
  let R : LoopState → Option Code → Loop := fun st pe => { state := st, pending := pe, fn := fn, tmps := a.tmps, params := ps, assign := assign, body := body, defers := r₀.defers }
  have hR : R = fun st pe => { state := st, pending := pe, fn := fn, tmps := a.tmps, params := ps, assign := assign, body := body, defers := r₀.defers } := rfl
  clear_value R
  obtain ⟨V, hV⟩ : ∃ V, w.alloc (.loop (R .ready none)) = V := ⟨_, rfl⟩
  have sV : V.heap.size = w.heap.size + 1 := by rw [← hV]; simp
  have rV : V.heap[w.heap.size]? = some (.loop (R .ready none)) := by rw [← hV]; exact World.alloc_heap_new w _
  have bV : Below w.heap.size w V := by rw [← hV]; exact (Below.refl _ w).alloc (Nat.le_refl _) _
  have iV : I V := hI () w V h0 (fr_below bV)
  have eV : (Instr.enterLoop fn a.tmps ps assign body (some l₀)).run P w = .ok (w.heap.size, []) V := by
    rw [← hV, hR]; exact run_enterLoop_inner hl₀ _ _ _ _ _
  have sR : ∀ st pe, (R st pe).state = st := by rw [hR]; intros; rfl
  have pR : ∀ st pe, (R st pe).params = ps := by rw [hR]; intros; rfl
  clear hV
  have keep : ∀ (T : Nat) (o : Obj), T < w.heap.size + 1 → BidesN (β := Unit) V.heap.size (fun _ W => W.heap[T]? = some o) := fun T o hT s A A' hs hf =>
    (hf.same T (Array.getElem?_eq_some_iff.1 hs).1 (fun hm => by have := hm.1; omega)).trans hs
  have le2 : w.heap.size ≤ V.heap.size := by omega
  have own : ∀ (X : World) (i : Nat) (r : Loop), X.heap[w.heap.size]? = some (.loop r) → i = w.heap.size → NcM w.heap.size X i := fun X i r hr e => by subst e; exact ⟨by omega, _, hr, rfl⟩
  refine ⟨w.heap.size, [], V, { target := .fn (.func gf) lb, args := #[.func (.yield w.heap.size) #[] #[]] }, V, gf, #[.func (.yield w.heap.size) #[] #[]] ++ lb, V, eV, ?_, ?_, ?_, h1, ?_⟩
  · simp only [resolve, hg]; simp [go_sem]
  · intro f' hf'; simp [Target.leads] at hf'; subst hf'; exact hFg
  · simp [invoke, go_sem, eg]
  refine (hseq w.heap.size
    (fun _ W => I W ∧ W.heap[w.heap.size]? = some (.loop (R .ready none)))
    (fun _ W => ∃ c, Ix c W ∧ W.heap[w.heap.size]? = some (.loop (R .done (some c))))
    V bV (by omega) (by omega) ((hI.more le2).and (keep _ _ (by omega))) ?_ ?_ ⟨iV, rV⟩).mono ?_
  · rintro s A A' ⟨c, h2, h3⟩ hf
    exact ⟨c, (hIx c).more le2 s A A' h2 hf, keep _ _ (by omega) s A A' h3 hf⟩
  · rintro x W hx ⟨hi, hr⟩ hsz
    rw [sV] at hsz
    have hy := run_yield (P := P) (args := encs x) hr (by rw [pR]; exact hps x)
    have hy' : (Instr.yield w.heap.size (encs x)).run P W = .ok (.round w.heap.size fn ((ps.zip (encs x)).foldl (fun t (p, v) => t.setIfInBounds p v) a.tmps) assign body) W := by rw [hy, hR]
    refine ⟨fn, _, assign, body, hy', roundIn_of_wpIn hfn (hassign _ x W _ ?_)⟩
    clear hy hy'
    have at' : ∀ {X Y : World} {T : Nat} {o : Obj}, Fr M X Y → T < w.heap.size + 1 → w.heap.size ≤ T → X.heap[T]? = some o → Y.heap[T]? = some o := fun hf h2 h3 ho =>
      (hf.same _ (Array.getElem?_eq_some_iff.1 ho).1 (fun hm => by have := hM _ hm; omega)).trans ho
    have la := (Array.getElem?_eq_some_iff.1 hr).1
    refine ⟨_, run_beginRound hr (by rw [sR]), ?_⟩
    have e2 : ({ R .ready none with state := .busy } : Loop) = R .busy none := by rw [hR]
    rw [e2]
    obtain ⟨Wb, hWb⟩ : ∃ Wb, W.putObj w.heap.size (.loop (R .busy none)) = Wb := ⟨_, rfl⟩
    have fb : Fr (fun i => i = w.heap.size) W Wb := by rw [← hWb]; exact Fr.put _ _ _
    have hrb : Wb.heap[w.heap.size]? = some (.loop (R .busy none)) := by rw [← hWb]; exact World.putObj_heap_same la
    rw [hWb]
    clear hWb
    refine wpIn_mono (hbody _ x Wb (by omega) ⟨_, hrb⟩ (hX x () _ _ hx (fb.mono fun i _ e => own _ i _ hr e)) (hI () _ _ hi (fb.mono fun i _ e => own _ i _ hr e)) (by have := fb.size; omega)) ?_
    have fin : ∀ (jump : Option Code) (Wc : World), Fr M Wb Wc → ∃ Wd,
        (Instr.endRound w.heap.size jump).run P Wc = .ok (.bool jump.isNone) Wd ∧ Fr (NcM w.heap.size Wc) Wc Wd ∧
        Fr (fun i => i = w.heap.size ∨ M i) W Wd ∧ Wd.heap[w.heap.size]? = some (.loop (R (if jump.isNone then .ready else .done) jump)) := fun jump Wc fc => by
      have hrc := at' fc (by omega) (by omega) hrb
      have e3 : ({ R .busy none with state := if jump.isNone then .ready else .done, pending := jump } : Loop) = R (if jump.isNone then .ready else .done) jump := by rw [hR]
      have := run_endRound (P := P) jump hrc
      rw [e3] at this
      refine ⟨_, this, (Fr.put _ _ _).mono fun i _ e => own _ i _ hrc e, ?_, World.putObj_heap_same (Array.getElem?_eq_some_iff.1 hrc).1⟩
      have g2 : Fr (fun i => i = w.heap.size ∨ M i) W Wb := fb.mono fun i _ e => .inl e
      have g3 := g2.then fc (fun i _ hn _ hm => hn (.inr hm))
      exact g3.then (Fr.put Wc _ _) (fun i _ hn _ e => hn (.inl e))
    rintro e a3 Wc hp
    cases e with
    | normal => exact hp.elim
    | ret =>
      obtain ⟨Wd, q1, q2, q3, q4⟩ := fin (some .ret) Wc hp.1
      exact ⟨_, _, q1, q3, rfl, .ret, hIx _ () _ _ hp.2 q2, q4⟩
    | exit id =>
      obtain ⟨Wd, q1, q2, q3, q4⟩ := fin (some (.exit id)) Wc hp.1
      exact ⟨_, _, q1, q3, rfl, .exit id, hIx _ () _ _ hp.2 q2, q4⟩
    | goto t =>
      obtain ⟨Wd, q1, q2, q3, q4⟩ := fin (some (.goto t)) Wc hp.1
      exact ⟨_, _, q1, q3, rfl, .goto t, hIx _ () _ _ hp.2 q2, q4⟩
    | panic ch => exact hp.elim
    | outgrown => exact hp.elim
  · have pe : ∀ st pe, (R st pe).pending = pe := by rw [hR]; intros; rfl
    rintro e W2 ⟨⟨v, rfl⟩, c, hi, hl⟩
    have := run_endLoop (P := P) hl (by rw [sR]; simp)
    rw [pe] at this
    exact ⟨some c, _, this, by simpa using hstop c _ (hIx c () _ _ hi ((Fr.put _ _ _).mono fun i _ e => own _ i _ hl e))⟩
end Go.Proofs.Ytbjdojcenflliaa
