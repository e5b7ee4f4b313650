/- The iterator of the links under one, up to its first round. A range over an iterator whose body is left in its first round: the iterator need not say what it does behind it. After L8's Itz. -/
import Derived.Test.YtkgfaemdgmmdkaaGreatDoorGxItz
import Derived.Test.YtkgfaemdgmmdkaaGreatDoorGxGup
namespace Go.Proofs.YtkgfaemdgmmdkaaGreatDoor.Gx
open Go.Proofs.YtkgfaemdgmmdkaaGreatDoor
open Go.RowKit

/-- The contract of an iterator value whose first round is its last. -/
def SeqF1 {α : Type} (Z : Obj → Prop) (F : Fence) (n : Nat) (P : Program) (g : Nat) (lb : Array Value) (encs : α → Array Value) (O M : Nat → Prop) (Nx : List α → α → Prop) (S Sp : List α → Prop) (k : Nat) (w : World) : Prop :=
  ∀ (l : Nat) (J Jx : List α → World → Prop) (W : World), Below w.heap.size w W → w.heap.size ≤ l → l < W.heap.size → Bides O W.heap.size (W.heap.size + k) J → Bides O W.heap.size (W.heap.size + k) Jx → (∀ pre x A, ¬ J (pre ++ [x]) A) →
    (∀ pre x W1, Nx pre x → J pre W1 → W.heap.size + k ≤ W1.heap.size → YieldAt F (n - 1) P l (encs x) W1 fun e W' =>
      Fr (fun i => i = l ∨ RndM Z M (W.heap.size + k) W1 i) W1 W' ∧ ((e = .returned (.bool true) ∧ J (pre ++ [x]) W') ∨ (e = .returned (.bool false) ∧ Jx (pre ++ [x]) W'))) →
    J [] W →
    CallsIn F n P g (#[.func (.yield l) #[] #[]] ++ lb) W fun e W' => (∃ v, e = .returned v) ∧ ((∃ xs, S xs ∧ J xs W') ∨ (∃ pre, Sp pre ∧ Jx pre W'))

theorem wpIn_rangeFunc_f1 {α : Type} {Z : Obj → Prop} {F : Fence} {n : Nat} {P : Program} {g : Operand} {ps : Array Tmp} {assign body : Code} {Q : Exit → Act → World → Prop} {a : Act} {w : World}
    (hro : F.round = none) (h1 : 1 ≤ n) {gf : Nat} {lb : Array Value} (hg : a.eval g = .func (.func gf) #[] lb) (hFg : F.fn gf) (eg : ∀ args w, (callFunc gf args).run P w = .ok (.enter gf args) w)
    {encs : α → Array Value} {O M : Nat → Prop} (hOw : ∀ i, O i → i < w.heap.size) {Nx : List α → α → Prop} {S Sp : List α → Prop} {k : Nat} (hseq : SeqF1 Z F (n - 1) P gf lb encs O M Nx S Sp k w) (hM : ∀ i, M i → i < w.heap.size) (hps : ∀ x, (encs x).size = ps.size)
    (I : List α → World → Prop) (hOne : ∀ pre x A, ¬ I (pre ++ [x]) A) (Ix : Code → List α → World → Prop) (hI : Bides O w.heap.size (w.heap.size + 2 + k) I) (hIx : ∀ c, Bides O w.heap.size (w.heap.size + 2 + k) (Ix c)) (h0 : I [] w)
    (Ax : α → Act → World → Prop) (hAx : ∀ x a', Bides O w.heap.size (w.heap.size + 2 + k) (fun (_ : Unit) W => Ax x a' W))
    (hassign : ∀ (l : Nat) (pre : List α) (x : α) (W : World) (K : Act → World → Prop), Nx pre x → I pre W → w.heap.size + 2 + k ≤ W.heap.size →
      (∀ a' W', Fr (RndM Z M (w.heap.size + 2 + k) W) W W' → I pre W' → Ax x a' W' → K a' W') →
      assign.wpIn (F.inRound l) (n - 1 - 1) P (Exit.then K (fun _ _ _ => False)) { tmps := (ps.zip (encs x)).foldl (fun t (p, v) => t.setIfInBounds p v) a.tmps, defers := [] } W)
    (hbody : ∀ (l : Nat) (pre : List α) (x : α) (a' : Act) (W : World), (∃ r, W.heap[l]? = some (.loop r)) → Nx pre x → I pre W → Ax x a' W → w.heap.size + 2 + k ≤ W.heap.size →
      body.wpIn (F.inRound l) (n - 1 - 1) P (frPost Z M (w.heap.size + 2 + k) I Ix (pre ++ [x]) W) a' W)
    (hdone : ∀ (D : Nat) (xs : List α) (W : World), w.heap.size ≤ D → S xs → I xs W → W.heap[D]? = some (.deferred (some [])) → Q .normal { a with defers := { target := .collected D, args := #[] } :: a.defers } W)
    (hstop : ∀ (D : Nat) (c : Code) (pre : List α) (W : World), w.heap.size ≤ D → Sp pre → Ix c pre W → W.heap[D]? = some (.deferred (some [])) → c.wpIn F n P Q { a with defers := { target := .collected D, args := #[] } :: a.defers } W) :
    (Code.rangeFunc g ps assign body).wpIn F n P Q a w := by
  refine wpIn_rangeFunc fun fn hfn => ?_
  rw [hro]
  -- the record, in its states
  let R : LoopState → Option Code → Loop := fun st pe => { state := st, pending := pe, fn := fn, tmps := a.tmps, params := ps, assign := assign, body := body, defers := w.heap.size }
  have hR : R = fun st pe => { state := st, pending := pe, fn := fn, tmps := a.tmps, params := ps, assign := assign, body := body, defers := w.heap.size } := rfl
  clear_value R
  obtain ⟨V, hV⟩ : ∃ V, (w.alloc (.deferred (some []))).alloc (.loop (R .ready none)) = V := ⟨_, rfl⟩
  have sV : V.heap.size = w.heap.size + 2 := by rw [← hV]; simp
  have rV : V.heap[w.heap.size + 1]? = some (.loop (R .ready none)) := by
    have := World.alloc_heap_new (w.alloc (.deferred (some []))) (.loop (R .ready none))
    rw [World.size_alloc] at this
    rw [← hV]; exact this
  have dV : V.heap[w.heap.size]? = some (.deferred (some [])) := by
    rw [← hV]; exact (Below.heap_alloc _ _ _ (by simp)).trans (World.alloc_heap_new w _)
  have bV : Below w.heap.size w V := by rw [← hV]; exact ((Below.refl _ w).alloc (Nat.le_refl _) _).alloc (by simp) _
  have iV : I [] V := hI [] w V h0 (fr_below bV)
  have eV : (Instr.enterLoop fn a.tmps ps assign body none).run P w = .ok (w.heap.size + 1, [{ target := .collected w.heap.size, args := #[] }]) V := by
    rw [← hV, hR]; exact run_enterLoop_outer _ _ _ _ _
  have sR : ∀ st pe, (R st pe).state = st := by rw [hR]; intros; rfl
  have pR : ∀ st pe, (R st pe).params = ps := by rw [hR]; intros; rfl
  clear hV
  -- two facts of book-keeping that stand beside I
  have keep : ∀ (T : Nat) (o : Obj), T < w.heap.size + 2 → w.heap.size ≤ T → Bides (β := List α) O V.heap.size (V.heap.size + k) (fun _ W => W.heap[T]? = some o) := fun T o hT hT' s A A' hs hf =>
    (hf.same T (Array.getElem?_eq_some_iff.1 hs).1 (fun hm => by rcases hm with h | h; have := hOw T h; omega; have := h.1; omega)).trans hs
  have more : ∀ {J : List α → World → Prop}, Bides O w.heap.size (w.heap.size + 2 + k) J → Bides O V.heap.size (V.heap.size + k) J := fun hJ s A A' hs hf => hJ s A A' hs (hf.mono fun i _ hm => hm.elim .inl fun h => .inr ⟨by have := h.1; omega, by rw [← sV]; exact h.2⟩)
  refine ⟨w.heap.size + 1, _, V, { target := .fn (.func gf) lb, args := #[.func (.yield (w.heap.size + 1)) #[] #[]] }, V, gf, #[.func (.yield (w.heap.size + 1)) #[] #[]] ++ lb, V, eV, ?_, ?_, ?_, fun _ => h1, ?_⟩
  · simp only [resolve, hg]; simp [go_sem]
  · intro f' hf'; simp [Target.leads] at hf'; subst hf'; exact hFg
  · simp [invoke, go_sem, eg]
  refine (hseq (w.heap.size + 1)
    (fun pre W => I pre W ∧ W.heap[w.heap.size + 1]? = some (.loop (R .ready none)) ∧ W.heap[w.heap.size]? = some (.deferred (some [])))
    (fun pre W => ∃ c, Ix c pre W ∧ W.heap[w.heap.size + 1]? = some (.loop (R .done (some c))) ∧ W.heap[w.heap.size]? = some (.deferred (some [])))
    V bV (by omega) (by omega) ((more hI).and ((keep _ _ (by omega) (by omega)).and (keep _ _ (by omega) (by omega)))) ?_ (fun pre x A h => hOne pre x A h.1) ?_ ⟨iV, rV, dV⟩).mono ?_
  · rintro s A A' ⟨c, h2, h3, h4⟩ hf
    exact ⟨c, more (hIx c) s A A' h2 hf, keep _ _ (by omega) (by omega) s A A' h3 hf, keep _ _ (by omega) (by omega) s A A' h4 hf⟩
  · -- a round
    rintro pre x W hnx ⟨hi, hr, hd⟩ hsz
    rw [sV] at hsz ⊢
    have hy := run_yield (P := P) (args := encs x) hr (by rw [pR]; exact hps x)
    have hy' : (Instr.yield (w.heap.size + 1) (encs x)).run P W = .ok (.round (w.heap.size + 1) fn ((ps.zip (encs x)).foldl (fun t (p, v) => t.setIfInBounds p v) a.tmps) assign body) W := by rw [hy, hR]
    refine ⟨fn, _, assign, body, hy', roundIn_of_wpIn hfn (hassign _ pre x W _ hnx hi hsz ?_)⟩
    clear hy hy'
    intro a' Wa fa hia hxa
    have out : ∀ (X : World) (T : Nat), T < w.heap.size + 2 → w.heap.size ≤ T → ¬ RndM Z M (w.heap.size + 2 + k) X T := fun X T h2 h3 hm => by
      rcases hm with h | h
      · have := hM T h; omega
      · omega
    have at' : ∀ {X Y : World} {T : Nat} {o : Obj}, Fr (RndM Z M (w.heap.size + 2 + k) X) X Y → T < w.heap.size + 2 → w.heap.size ≤ T → X.heap[T]? = some o → Y.heap[T]? = some o := fun hf h2 h3 ho =>
      (hf.same _ (Array.getElem?_eq_some_iff.1 ho).1 (out _ _ h2 h3)).trans ho
    have hra := at' fa (by omega) (by omega) hr
    have hda := at' fa (by omega) (by omega) hd
    have la := (Array.getElem?_eq_some_iff.1 hra).1
    refine ⟨_, run_beginRound hra (by rw [sR]), ?_⟩
    have e2 : ({ R .ready none with state := .busy } : Loop) = R .busy none := by rw [hR]
    rw [e2]
    obtain ⟨Wb, hWb⟩ : ∃ Wb, Wa.putObj (w.heap.size + 1) (.loop (R .busy none)) = Wb := ⟨_, rfl⟩
    have fb : Fr (fun i => i = w.heap.size + 1) Wa Wb := by rw [← hWb]; exact Fr.put _ _ _
    have hrb : Wb.heap[w.heap.size + 1]? = some (.loop (R .busy none)) := by rw [← hWb]; exact World.putObj_heap_same la
    have hdb : Wb.heap[w.heap.size]? = some (.deferred (some [])) := by rw [← hWb]; exact (World.putObj_heap_other (by omega)).trans hda
    rw [hWb]
    clear hWb
    have own : ∀ (X : World) (i : Nat), i = w.heap.size + 1 → OwnM O w.heap.size (w.heap.size + 2 + k) X i := fun X i e => .inr ⟨by omega, .inl (by omega)⟩
    refine wpIn_mono (hbody _ pre x a' Wb ⟨_, hrb⟩ hnx (hI _ _ _ hia (fb.mono fun i _ e => own _ i e)) (hAx x a' () _ _ hxa (fb.mono fun i _ e => own _ i e)) (by have := fa.size; have := fb.size; omega)) ?_
    have fin : ∀ (jump : Option Code) (Wc : World), Fr (RndM Z M (w.heap.size + 2 + k) Wb) Wb Wc → ∃ Wd,
        (Instr.endRound (w.heap.size + 1) jump).run P Wc = .ok (.bool jump.isNone) Wd ∧ Fr (OwnM O w.heap.size (w.heap.size + 2 + k) Wc) Wc Wd ∧
        Fr (fun i => i = w.heap.size + 1 ∨ RndM Z M (w.heap.size + 2 + k) W i) W Wd ∧ Wd.heap[w.heap.size + 1]? = some (.loop (R (if jump.isNone then .ready else .done) jump)) ∧ Wd.heap[w.heap.size]? = some (.deferred (some [])) := fun jump Wc fc => by
      have hrc := at' fc (by omega) (by omega) hrb
      have hdc := at' fc (by omega) (by omega) hdb
      have e3 : ({ R .busy none with state := if jump.isNone then .ready else .done, pending := jump } : Loop) = R (if jump.isNone then .ready else .done) jump := by rw [hR]
      have := run_endRound (P := P) jump hrc
      rw [e3] at this
      refine ⟨_, this, (Fr.put _ _ _).mono fun i _ e => own _ i e, ?_, World.putObj_heap_same (Array.getElem?_eq_some_iff.1 hrc).1, (World.putObj_heap_other (by omega)).trans hdc⟩
      have g1 : Fr (fun i => i = w.heap.size + 1 ∨ RndM Z M (w.heap.size + 2 + k) W i) W Wa := fa.mono fun i _ h => .inr h
      have g2 := g1.then fb (fun i _ hn _ e => hn (.inl e))
      have g3 := g2.then fc (fun i _ hn e hm => hn (.inr ((rndM_on e).1 hm)))
      exact g3.then (Fr.put Wc _ _) (fun i _ hn _ e => hn (.inl e))
    rintro e a3 Wc hp
    cases e with
    | normal =>
      obtain ⟨Wd, q1, q2, q3, q4, q5⟩ := fin none Wc hp.1
      exact ⟨_, _, q1, q3, .inl ⟨rfl, hI _ _ _ hp.2 q2, q4, q5⟩⟩
    | ret =>
      obtain ⟨Wd, q1, q2, q3, q4, q5⟩ := fin (some .ret) Wc hp.1
      exact ⟨_, _, q1, q3, .inr ⟨rfl, .ret, hIx _ _ _ _ hp.2 q2, q4, q5⟩⟩
    | exit id =>
      obtain ⟨Wd, q1, q2, q3, q4, q5⟩ := fin (some (.exit id)) Wc hp.1
      exact ⟨_, _, q1, q3, .inr ⟨rfl, .exit id, hIx _ _ _ _ hp.2 q2, q4, q5⟩⟩
    | goto t =>
      obtain ⟨Wd, q1, q2, q3, q4, q5⟩ := fin (some (.goto t)) Wc hp.1
      exact ⟨_, _, q1, q3, .inr ⟨rfl, .goto t, hIx _ _ _ _ hp.2 q2, q4, q5⟩⟩
    | panic ch => exact hp.elim
    | outgrown => exact hp.elim
  · -- behind the iterator
    have e4 : ∀ st pe, ({ R st pe with state := .exhausted } : Loop) = R .exhausted pe := by rw [hR]; intros; rfl
    have own : ∀ (X : World) (i : Nat), i = w.heap.size + 1 → OwnM O w.heap.size (w.heap.size + 2 + k) X i := fun X i e => .inr ⟨by omega, .inl (by omega)⟩
    have pe : ∀ st pe, (R st pe).pending = pe := by rw [hR]; intros; rfl
    rintro e W2 ⟨⟨v, rfl⟩, (⟨xs, hS, hi, hl, hk⟩ | ⟨pre, hSp, c, hi, hl, hk⟩)⟩
    · have := run_endLoop (P := P) hl (by rw [sR]; simp)
      rw [pe] at this
      exact ⟨none, _, this, hdone _ xs _ (Nat.le_refl _) hS (hI _ _ _ hi ((Fr.put _ _ _).mono fun i _ e => own _ i e)) ((World.putObj_heap_other (by omega)).trans hk)⟩
    · have := run_endLoop (P := P) hl (by rw [sR]; simp)
      rw [pe] at this
      exact ⟨some c, _, this, hstop _ c pre _ (Nat.le_refl _) hSp (hIx c _ _ _ hi ((Fr.put _ _ _).mono fun i _ e => own _ i e)) ((World.putObj_heap_other (by omega)).trans hk)⟩
end Go.Proofs.YtkgfaemdgmmdkaaGreatDoor.Gx
namespace Go.Proofs.YtkgfaemdgmmdkaaGreatDoor.Gx
open Go.Proofs.YtkgfaemdgmmdkaaGreatDoor
open Go.RowKit Go.Shelf
attribute [local go_sem] Oper.semAt_some

set_option maxRecDepth 100000 in
set_option maxHeartbeats 4000000 in
theorem under1_f1 (q : Nat) (hq : 1 ≤ q) (Bf Br : Nat) (al : Option Addr) (m capl : Nat) (lm : Nat → List UInt8) (lf : Nat → Int) (M : Nat → Prop) (w : World)
    (hm : m ≤ 1000) (i : Nat) (hi : i < m) (hf : w.cell? ⟨Bf, 0, none⟩ = some (.int .i64 (i : Nat))) (hr : w.cell? ⟨Br, 0, none⟩ = some (.slice al m capl)) (hL : LkAt w al m lm lf) :
    SeqF1 NoZ Fence.wide q Tryz.prog 60 #[.pointer (some ⟨Bf, 0, none⟩), .pointer (some ⟨Br, 0, none⟩)] (fun x : Nat => #[.int .i64 (x : Nat)]) (fun _ => False) M
      (fun pre x => pre = [] ∧ x < m ∧ lf x = (i : Nat)) (fun ys => ys = [] ∧ ∀ k, i < k → k < m → lf k ≠ (i : Nat)) (fun pre => ∃ x, pre = [x] ∧ x < m ∧ lf x = (i : Nat)) 0 w := by
  intro l J Jx W hW hl0 hl hJ hJx hOne hY h0
  have hf0 : Fr (fun _ => False) w W := (Fr.refl w).call hW
  have hf := hf0.cell (p := ⟨Bf, 0, none⟩) id hf
  have hr := hf0.cell (p := ⟨Br, 0, none⟩) id hr
  have hL := hL.fr hf0 (fun _ _ _ _ => id)
  have hBf := World.block_lt_of_cell? _ _ hf
  have hBr := World.block_lt_of_cell? _ _ hr
  refine callsIn_of_wp Tryz.func60 rfl trivial ?_ rfl
  simp only [Tryz.ntmps60, List.size_toArray, List.length_cons, List.length_nil, Nat.reduceAdd, Nat.reduceSub, Array.replicate_succ, Array.replicate_zero, List.push_toArray, List.append_toArray, List.nil_append, List.cons_append]
  have HY := Lib.hid hY
  have HO := Lib.hid hOne
  have HL := Lib.hid hL
  have hmI : (m : Int) ≤ 1000 := by omega
  have HJ := Lib.hid hJ
  clear hY hOne hJ hJx hW hL hf0
  have hiw : IntKind.i64.wrap ((i : Int) + 1) = (i : Int) + 1 := by rw [IntKind.wrap_i64]; omega
  have hJ0 := HJ.out _ _ (W.alloc (.cells #[.func (.yield l) #[] #[]] 72)) h0 ((Fr.refl W).alloc _)
  have HL0 := Lib.hid (HL.out.fr (M := fun _ => False) ((Fr.refl W).alloc (.cells #[.func (.yield l) #[] #[]] 72)) (fun _ _ _ _ => id))
  have HF0 := Lib.hid (((Fr.refl (M := fun _ => False) W).alloc (.cells #[.func (.yield l) #[] #[]] 72)).cell (p := ⟨Bf, 0, none⟩) id hf)
  have HR0 := Lib.hid (((Fr.refl (M := fun _ => False) W).alloc (.cells #[.func (.yield l) #[] #[]] 72)).cell (p := ⟨Br, 0, none⟩) id hr)
  have HB0 : Hid ((W.alloc (.cells #[.func (.yield l) #[] #[]] 72)).cell? ⟨W.heap.size, 0, none⟩ = some (.func (.yield l) #[] #[])) := Lib.hid (by simp [go_sem])
  gi_wp2
  gi_loopw [4] (fun v wr => ∃ k : Nat, (i < k ∧ k ≤ m) ∧ v = .int .i64 k ∧ Hid (∀ t, i < t → t < k → lf t ≠ (i : Nat)) ∧ J [] wr ∧ W.heap.size ≤ wr.heap.size ∧ Hid (LkAt wr al m lm lf) ∧ Hid (wr.cell? ⟨Bf, 0, none⟩ = some (.int .i64 (i : Nat))) ∧ Hid (wr.cell? ⟨Br, 0, none⟩ = some (.slice al m capl)) ∧ Hid (wr.cell? ⟨W.heap.size, 0, none⟩ = some (.func (.yield l) #[] #[]))) (fun v _ => m - (intOf v).toNat)
  case atStart => exact ⟨i + 1, ⟨by omega, by omega⟩, by first | rfl | go_num, Lib.hid (fun t h1 h2 => by omega), hJ0, by simp, HL0, HF0, HR0, HB0⟩
  case round =>
    clear hJ0 HL0 HF0 HR0 HB0 HL hf hr
    obtain ⟨k, hk, rfl, HN, hJk, hsz, HL, HF, HR, HB⟩ := hrel
    have f0 := HF.out
    have f1 := HR.out
    have f2 := HB.out
    by_cases hkm : k < m
    · have hkI : (k : Int) < (m : Int) := by omega
      obtain ⟨b, off, rfl, hb, c0, c1⟩ := HL.out k hkm
      by_cases he : lf k = (i : Nat)
      · have hne : (((i : Nat) : Int) != ((i : Nat) : Int)) = false := by simp
        have HE := Lib.hid he
        rw [he] at c1
        clear he
        have hJd := HJ.out _ _ wr.drew hJk ((Fr.refl wr).drew)
        obtain ⟨fn, tmps, assign, body, hy, hR⟩ := HY.out [] k wr.drew ⟨rfl, hkm, HE.out⟩ hJd (by simp; omega)
        have HRd := Lib.hid hR
        clear hR hJk HJ
        gi_wp2
        gi_region
        all_goals
          gi_wp2
          refine RoundIn.mono HRd.out ?_
          rintro e VV ⟨hf, (⟨rfl, hJ4⟩ | ⟨rfl, hJx3⟩)⟩
          · exact absurd hJ4 (HO.out _ _ _)
          · clear hf
            gi_wp2
            first
              | (go_end0; exact ⟨⟨_, rfl⟩, .inr ⟨_, ⟨k, rfl, hkm, HE.out⟩, hJx3⟩⟩)
              | (refine bodyPost_ret (results_none rfl _ _ _) rfl ?_; exact ⟨⟨_, rfl⟩, .inr ⟨_, ⟨k, rfl, hkm, HE.out⟩, hJx3⟩⟩)
      · have hne : (lf k != ((i : Nat) : Int)) = true := by simp [he]
        have HE := Lib.hid he
        clear he
        have hJd := HJ.out _ _ wr.drew hJk ((Fr.refl wr).drew)
        gi_wp2
        gi_region
        all_goals
          gi_wp2
          go_roundw
          case rel => exact ⟨k + 1, ⟨by omega, by omega⟩, by go_num, Lib.hid (fun t h1 h2 => by
            by_cases e : t = k
            · subst e; exact HE.out
            · exact HN.out t h1 (by omega)), hJd, hsz, HL, HF, HR, HB⟩
          case measure => simp [intOf]; omega
    · obtain rfl : k = m := by omega
      gi_wp2
      go_end0
      exact ⟨⟨_, rfl⟩, .inl ⟨_, ⟨rfl, HN.out⟩, hJk⟩⟩
end Go.Proofs.YtkgfaemdgmmdkaaGreatDoor.Gx
