/- The iterator of minutes in which work goes, or does not: its contract. -/
import Derived.Test.YtfmoedlnjlkiiaaDoorWdj
import Derived.Stop.RegionWithIn
namespace Go.Proofs.YtfmoedlnjlkiiaaDoor
open Go.RowKit Go.Shelf
attribute [local go_sem] Oper.semAt_some

theorem roundIn_any {F : Fence} {n n' l f : Nat} {P : Program} {tmps : Array Value} {assign body : Code} {w : World} {R : Ending → World → Prop} (hd : F.depth = none) (h : RoundIn F n P l f tmps assign body w R) : RoundIn F n' P l f tmps assign body w R :=
  ⟨h.1, fun c cs _ => h.2 c cs (fun d hd' => by rw [hd] at hd'; cases hd')⟩
/-- Work goes in a minute, or does not, as is asked. -/
def pW (s g c : Int) (f : Nat → Int) (q : Bool) (k : Nat) : Bool := gW s g c f k == q
theorem cells_of_cell {W : World} {p : Addr} {v : Value} (h : W.cell? p = some v) : ∃ o, W.heap[p.block]? = some o ∧ o.isCells = true := by
  unfold World.cell? at h
  cases ho : W.heap[p.block]? with
  | none => simp [ho] at h
  | some o => cases o <;> simp_all [Obj.isCells]
theorem none_fn {F : Fence} : (∀ f : FuncId, (none : Option FuncId) = some f → F.fn f) = True := eq_true fun _ h => by cases h
attribute [local go_sem] none_fn
theorem filter_snoc (p : Nat → Bool) (pre : List Nat) (x : Nat) : (pre ++ [x]).filter p = if p x then pre.filter p ++ [x] else pre.filter p := by
  rw [List.filter_append]
  cases h : p x <;> simp [h]

/-- What a round that was asked leaves. -/
structure YOut (l : Nat) (M : Nat → Prop) (C : Nat) (X : World) (J Jx : List Nat → World → Prop) (ys : List Nat) (b : Bool) (W' : World) : Prop where
  fr : Fr (fun i => i = l ∨ RndM StepO M C X i) X W'
  on : b = true → J ys W'
  off : b = false → Jx ys W'

set_option maxRecDepth 100000 in
set_option maxHeartbeats 2000000 in
theorem where1_fr (m : Nat) (hm : 3 ≤ m) (Bw Bq : Nat) (s g c : Int) (a : Option Addr) (n cap : Nat) (f : Nat → Int) (q : Bool) (M : Nat → Prop) (w : World) (hMm : ∀ i, M i → i < w.heap.size) (_hMw : ¬ M Bw) (hMq : ¬ M Bq) (hMb : ∀ b off, a = some ⟨b, off, none⟩ → 0 < n → ¬ M b)
    (hc : 1 ≤ c ∧ c ≤ 1000) (hn : n ≤ 2000) (h0 : w.cell? ⟨Bw, 0, none⟩ = some (.int .i64 s)) (h1 : w.cell? ⟨Bw, 1, none⟩ = some (.int .i64 g)) (h2 : w.cell? ⟨Bw, 2, none⟩ = some (.int .i64 c)) (h3 : w.cell? ⟨Bw, 3, none⟩ = some (.slice a n cap))
    (hq : w.cell? ⟨Bq, 0, none⟩ = some (.bool q)) (hA : IAt w a n f) :
    SeqFr StepO Fence.wide m Tryd.prog 76 #[.pointer (some ⟨Bw, 0, none⟩), .pointer (some ⟨Bq, 0, none⟩)] (fun k : Nat => #[.int .i64 k]) (fun _ => False) M
      (fun pre x => pre = fl (pW s g c f q) x ∧ x < n ∧ pW s g c f q x = true) (fun ys => ys = fl (pW s g c f q) n) (fun _ => True) 8 w := by
  intro l J Jx W hW hl0 hl hJ hJx hY h00
  have hbw : Bw < w.heap.size := World.block_lt_of_cell? w _ h0
  have hbq : Bq < w.heap.size := World.block_lt_of_cell? w _ hq
  have hab : ∀ b off, a = some ⟨b, off, none⟩ → 0 < n → b < w.heap.size := fun b off e h => by
    obtain ⟨b', off', e', h1, _⟩ := hA 0 h
    rw [e] at e'; cases e'; exact h1
  have hf0 : Fr (fun _ => False) w W := (Fr.refl w).call hW
  have h0 := hf0.cell (p := ⟨Bw, 0, none⟩) id h0
  have h1 := hf0.cell (p := ⟨Bw, 1, none⟩) id h1
  have h2 := hf0.cell (p := ⟨Bw, 2, none⟩) id h2
  have h3 := hf0.cell (p := ⟨Bw, 3, none⟩) id h3
  have hq := hf0.cell (p := ⟨Bq, 0, none⟩) id hq
  have hA := hA.fr hf0 (fun _ _ _ _ => id)
  have hS := hW.size
  have HY := Lib.hid hY
  have HA := Lib.hid hA
  have HJ := Lib.hid hJ
  have HJx := Lib.hid hJx
  have H0 := Lib.hid h00
  have HM := Lib.hid (fun w => minutes_any s g c a n cap w)
  clear hY hA hJ hJx h00 hW hf0
  have hbwW : Bw < W.heap.size := by omega
  have hbqW : Bq < W.heap.size := by omega
  refine callsIn_of_wp_marks Tryd.func76 rfl trivial ?_ rfl
  simp only [Tryd.ntmps76, List.size_toArray, List.length_cons, List.length_nil, Nat.reduceAdd, Nat.reduceSub, Array.replicate_succ, Array.replicate_zero, List.push_toArray, List.append_toArray, List.nil_append, List.cons_append]
  refine wpIn_wide.2 ?_
  unfold waV at HM
  go_wp2_with (go_at_call 63; refine (HM.out _).mono ?_; rintro e w1 ⟨rfl, hb1, hs1, hB1⟩)
  have FrA : Fr (OwnM (fun _ => False) W.heap.size (W.heap.size + 8) W) W w1 := ((Fr.refl W).alloc _).call hb1
  have FrE : Fr (fun _ => False) W w1 := ((Fr.refl W).alloc _).call hb1
  simp only [World.size_alloc] at hs1 hB1
  have yc : w1.cell? ⟨W.heap.size, 0, none⟩ = some (.func (.yield l) #[] #[]) := (hb1.cell (p := ⟨W.heap.size, 0, none⟩) (by simp)).trans (by simp [go_sem])
  have qc := FrE.cell (p := ⟨Bq, 0, none⟩) id hq
  have J0 := HJ.out [] W w1 H0.out FrA
  have hA1 := HA.out.fr FrE (fun _ _ _ _ => id)
  have nM : ∀ i, W.heap.size ≤ i → i ≠ l → ¬ (M i ∨ i = l) := fun i h1 h2 h => by
    rcases h with h | h
    · have := hMm _ h; omega
    · exact h2 h
  clear hb1 h0 h1 h2 h3 hq HM
  have sub : ∀ (A : World) (i : Nat), OwnM (fun _ => False) w1.heap.size (w1.heap.size + 2 + 0) A i → OwnM (fun _ => False) W.heap.size (W.heap.size + 8) A i := fun A i h => by
    rcases h with h | ⟨h1, h2⟩
    · exact h.elim
    · exact .inr ⟨by omega, by rcases h2 with h2 | h2; exact .inl (by omega); exact .inr h2⟩
  have out : ∀ (A : World) (B : Nat), B < w1.heap.size → ¬ OwnM (fun _ => False) w1.heap.size (w1.heap.size + 2 + 0) A B := fun A B hB h => by
    rcases h with h | ⟨h1, _⟩
    · exact h
    · omega
  refine wpIn_wide (n := m).1 ?_
  refine wpIn_rangeFunc_fr rfl (by omega) (gf := 80) (lb := #[.pointer (some ⟨W.heap.size + 1, 0, none⟩), .pointer (some ⟨W.heap.size + 1 + 4, 0, none⟩)]) rfl trivial (enters_of Tryd.func80 (by kernel_rfl) rfl)
    (O := fun _ => False) (M := fun i => M i ∨ i = l) (fun _ h => h.elim)
    (minutes1_fr (m - 1) (by omega) (W.heap.size + 1) (W.heap.size + 1 + 4) s g c a n cap f _ w1 (fun i h => by rcases h with h | h; have := hMm _ h; omega; omega) (nM _ (by omega) (by omega)) (nM _ (by omega) (by omega))
      (fun b off e h5 h => by
        rcases h with h | h
        · exact hMb b off e h5 h
        · have := hab b off e h5; omega) hc hn hB1 hA1)
    (fun i h => by rcases h with h | h; have := hMm _ h; omega; omega) (fun _ => rfl)
    (fun pre V => J (pre.filter (pW s g c f q)) V ∧ V.cell? ⟨W.heap.size, 0, none⟩ = some (.func (.yield l) #[] #[]) ∧ V.cell? ⟨Bq, 0, none⟩ = some (.bool q))
    (fun c' pre V => c' = .ret ∧ Jx (pre.filter (pW s g c f q)) V)
    (fun pre A A' hs hf => ⟨HJ.out _ A A' hs.1 (hf.mono fun i _ h => sub A i h), hf.cell (p := ⟨W.heap.size, 0, none⟩) (out A _ (by simp; omega)) hs.2.1, hf.cell (p := ⟨Bq, 0, none⟩) (out A _ (by simp; omega)) hs.2.2⟩)
    (fun c' pre A A' hs hf => ⟨hs.1, HJx.out _ A A' hs.2 (hf.mono fun i _ h => sub A i h)⟩)
    ⟨J0, yc, qc⟩
    (fun x a' V => ∃ Bc, W.heap.size + 8 ≤ Bc ∧ V.cell? ⟨Bc, 0, none⟩ = some (.int .i64 (wt s g c f x)) ∧ V.cell? ⟨Bc, 1, none⟩ = some (.int .i64 (wt s g c f (x + 1))) ∧
      a' = { tmps := #[.func (.yield l) #[] #[], .pointer (some ⟨Bw, 0, none⟩), .pointer (some ⟨Bq, 0, none⟩), .pointer (some ⟨W.heap.size, 0, none⟩), .int .i64 x, .pointer (some ⟨Bc, 0, none⟩), .agg #[.int .i64 s, .int .i64 g, .int .i64 c, .slice a n cap], .func (.func 80) #[] #[.pointer (some ⟨W.heap.size + 1, 0, none⟩), .pointer (some ⟨W.heap.size + 1 + 4, 0, none⟩)], .int .i64 x, .agg #[.int .i64 (wt s g c f x), .int .i64 (wt s g c f (x + 1))], undef, undef, undef, undef, undef, undef, undef, undef, undef, undef], defers := [] })
    (fun x a' _ A A' hs hf => by
      obtain ⟨Bc, h1, h2, h3, h4⟩ := hs
      have nb : ¬ OwnM (fun _ => False) w1.heap.size (w1.heap.size + 2 + 0) A Bc := fun h => by
        rcases h with h | ⟨_, h | ⟨o, ho, hno⟩⟩
        · exact h
        · omega
        · obtain ⟨o', h6, h7⟩ := cells_of_cell h2
          rw [h6] at ho; cases ho; rw [h7] at hno; cases hno
      exact ⟨Bc, h1, hf.cell (p := ⟨Bc, 0, none⟩) nb h2, hf.cell (p := ⟨Bc, 1, none⟩) nb h3, h4⟩)
    ?assign ?body ?done ?stop
  case assign =>
    rintro l' pre x V K hnx ⟨hj, hyc, hqc⟩ hsz' hK
    gi_wp2
    have fA : Fr (fun _ => False) V (V.alloc (.cells #[.int .i64 (wt s g c f x), .int .i64 (wt s g c f (x + 1))] 86)) := (Fr.refl V).alloc _
    exact hK _ _ (fA.mono fun _ _ h => h.elim) ⟨HJ.out _ V _ hj (fA.mono fun _ _ h => h.elim), keep_alloc hyc, keep_alloc hqc⟩ ⟨V.heap.size, by omega, by simp [go_sem], by simp [go_sem], rfl⟩
  case body =>
    rintro l' pre x a' V ⟨r, hr⟩ hnx ⟨hj, hyc, hqc⟩ ⟨Bc, hBc, hc0, hc1, rfl⟩ hsz'
    have HG : Hid (∀ W, Calls Tryd.prog 77 #[.agg #[.int .i64 (wt s g c f x), .int .i64 (wt s g c f (x + 1))]] W fun e w' => e = .returned (.bool (gW s g c f x)) ∧ Below W.heap.size W w') := Lib.hid fun W => goes_any _ _ W
    have HP := Lib.hid (show pW s g c f q x = (gW s g c f x == q) from rfl)
    have HF := Lib.hid (filter_snoc (pW s g c f q) pre x)
    have HN := Lib.hid (show pre.filter (pW s g c f q) = fl (pW s g c f q) x by rw [hnx.1]; rfl)
    have HYk : Hid (pW s g c f q x = true → ∀ X, J (pre.filter (pW s g c f q)) X → W.heap.size + 8 ≤ X.heap.size → YieldAt Fence.wide (m - 1) Tryd.prog l #[.int .i64 x] X fun e W' =>
      Fr (fun i => i = l ∨ RndM StepO M (W.heap.size + 8) X i) X W' ∧ ((e = .returned (.bool true) ∧ J (pre.filter (pW s g c f q) ++ [x]) W') ∨ (e = .returned (.bool false) ∧ Jx (pre.filter (pW s g c f q) ++ [x]) W'))) :=
      Lib.hid fun hp X h1 h2 => HY.out _ x X ⟨HN.out, hnx.2, hp⟩ h1 h2
    have hV1 : W.heap.size < V.heap.size := by omega
    have hV2 : Bq < V.heap.size := by omega
    have hV3 : Bc < V.heap.size := World.block_lt_of_cell? V _ hc0
    clear HY HN hnx
    generalize gW s g c f x = b at *
    generalize pW s g c f q x = pb at *
    generalize wt s g c f x = u at *
    generalize wt s g c f (x + 1) = u' at *
    generalize pre.filter (pW s g c f q) = ys at *
    have HU : Hid (pb = true → ∀ W2, Below V.drew.heap.size V.drew W2 → ∃ fn tmps assign body, (Instr.yield l #[.int .i64 x]).run Tryd.prog W2 = .ok (.round l fn tmps assign body) W2 ∧ Hid (RoundIn Fence.wide (m - 1) Tryd.prog l fn tmps assign body W2 fun e W' => ∃ b : Bool, e = .returned (.bool b) ∧ Hid (YOut l M (W.heap.size + 8) W2 J Jx (ys ++ [x]) b W'))) := Lib.hid fun hp W2 hb => by
      obtain ⟨fn, tmps, assign, body, hy, hR⟩ := HYk.out hp W2 (HJ.out _ V W2 hj (((Fr.refl V).drew).call hb)) (by have := hb.size; simp at this; omega)
      refine ⟨fn, tmps, assign, body, hy, Lib.hid (RoundIn.mono hR ?_)⟩
      rintro e W' ⟨hf, ⟨rfl, h⟩ | ⟨rfl, h⟩⟩
      · exact ⟨true, rfl, Lib.hid ⟨hf, fun _ => h, fun h => (by cases h)⟩⟩
      · exact ⟨false, rfl, Lib.hid ⟨hf, fun h => (by cases h), fun _ => h⟩⟩
    clear HYk
    have FV : ∀ W2, Below V.drew.heap.size V.drew W2 → Fr (fun _ => False) V W2 := fun W2 hb => ((Fr.refl V).drew).call hb
    cases b <;> cases q
    case false.true =>
      have e0 := HP.out
      subst e0
      have eF : List.filter (pW s g c f _) (pre ++ [x]) = ys := HF.out
      clear HF HU
      gi_wp2
      gi_region_with (first | (refine ⟨fun _ h => (by cases h), ?_⟩) | (refine ⟨trivial, fun _ => by omega, (CallsIn.inRound l' (callsIn_wide.2 (HG.out _))).mono ?_⟩; rintro e w2 ⟨rfl, hw2⟩; have q2 := (hw2.cell (p := ⟨Bq, 0, none⟩) (by simpa using hV2)).trans hqc))
      all_goals
        gi_wp2
        have F2 := FV _ hw2
        exact ⟨F2.mono fun _ _ h => h.elim, by rw [eF]; exact HJ.out _ V _ hj (F2.mono fun _ _ h => h.elim), F2.cell (p := ⟨W.heap.size, 0, none⟩) id hyc, F2.cell (p := ⟨Bq, 0, none⟩) id hqc⟩
    case true.false =>
      have e0 := HP.out
      subst e0
      have eF : List.filter (pW s g c f _) (pre ++ [x]) = ys := HF.out
      clear HF HU
      gi_wp2
      gi_region_with (first | (refine ⟨fun _ h => (by cases h), ?_⟩) | (refine ⟨trivial, fun _ => by omega, (CallsIn.inRound l' (callsIn_wide.2 (HG.out _))).mono ?_⟩; rintro e w2 ⟨rfl, hw2⟩; have q2 := (hw2.cell (p := ⟨Bq, 0, none⟩) (by simpa using hV2)).trans hqc))
      all_goals
        gi_wp2
        have F2 := FV _ hw2
        exact ⟨F2.mono fun _ _ h => h.elim, by rw [eF]; exact HJ.out _ V _ hj (F2.mono fun _ _ h => h.elim), F2.cell (p := ⟨W.heap.size, 0, none⟩) id hyc, F2.cell (p := ⟨Bq, 0, none⟩) id hqc⟩
    case false.false =>
      have e0 := HP.out
      subst e0
      have eF : List.filter (pW s g c f _) (pre ++ [x]) = ys ++ [x] := HF.out
      clear HF
      gi_wp2
      gi_region_with (first | (refine ⟨fun _ h => (by cases h), ?_⟩) | (refine ⟨trivial, fun _ => by omega, (CallsIn.inRound l' (callsIn_wide.2 (HG.out _))).mono ?_⟩; rintro e w2 ⟨rfl, hw2⟩; have q2 := (hw2.cell (p := ⟨Bq, 0, none⟩) (by simpa using hV2)).trans hqc; have y2 := (hw2.cell (p := ⟨W.heap.size, 0, none⟩) (by simpa using hV1)).trans hyc; obtain ⟨fn, tmps, assign, body, hy, HR⟩ := HU.out rfl w2 hw2) | (refine ⟨fun _ => by omega, RoundIn.mono (show RoundIn (Fence.wide.inRound l') _ _ _ _ _ _ _ _ _ from roundIn_any (F := Fence.wide) rfl HR.out) ?_⟩; rintro e W3 ⟨b, rfl, hY3⟩))
      all_goals
        have F2 := FV _ hw2
        have hw2s := F2.size
        obtain ⟨hf3, ht3, hx3⟩ := hY3.out
        have F3 : Fr (RndM StepO (fun i => M i ∨ i = l) (W.heap.size + 8) V) V W3 := (F2.mono fun _ _ h => h.elim).then hf3 (fun i hi hn e hm => by
          rcases hm with h | h | ⟨h1, h2⟩
          · exact hn (.inl (.inr h))
          · exact hn (.inl (.inl h))
          · exact hn (.inr ⟨by omega, by rw [← e]; exact h2⟩))
        have nB : ∀ i, i < W.heap.size + 8 → i ≠ l → ¬ M i → ¬ (i = l ∨ RndM StepO M (W.heap.size + 8) w2 i) := fun i h1 h2 h3 hm => by
          rcases hm with h | h | ⟨h, _⟩
          · exact h2 h
          · exact h3 h
          · omega
        have y3 := hf3.cell (p := ⟨W.heap.size, 0, none⟩) (nB _ (by simp) (by simp; omega) (fun h => by have := hMm _ h; simp at this; omega)) y2
        have q3 := hf3.cell (p := ⟨Bq, 0, none⟩) (nB _ (by simp; omega) (by simp; omega) hMq) q2
        have e8 : w1.heap.size + 2 + 0 = W.heap.size + 8 := by omega
        cases b
        · gi_wp2
          exact ⟨by first | exact F3 | (rw [e8]; exact F3), rfl, by rw [eF]; exact hx3 (by first | rfl | trivial)⟩
        · gi_wp2
          exact ⟨by first | exact F3 | (rw [e8]; exact F3), by rw [eF]; exact ht3 (by first | rfl | trivial), y3, q3⟩
    case true.true =>
      have e0 := HP.out
      subst e0
      have eF : List.filter (pW s g c f _) (pre ++ [x]) = ys ++ [x] := HF.out
      clear HF
      gi_wp2
      gi_region_with (first | (refine ⟨fun _ h => (by cases h), ?_⟩) | (refine ⟨trivial, fun _ => by omega, (CallsIn.inRound l' (callsIn_wide.2 (HG.out _))).mono ?_⟩; rintro e w2 ⟨rfl, hw2⟩; have q2 := (hw2.cell (p := ⟨Bq, 0, none⟩) (by simpa using hV2)).trans hqc; have y2 := (hw2.cell (p := ⟨W.heap.size, 0, none⟩) (by simpa using hV1)).trans hyc; obtain ⟨fn, tmps, assign, body, hy, HR⟩ := HU.out rfl w2 hw2) | (refine ⟨fun _ => by omega, RoundIn.mono (show RoundIn (Fence.wide.inRound l') _ _ _ _ _ _ _ _ _ from roundIn_any (F := Fence.wide) rfl HR.out) ?_⟩; rintro e W3 ⟨b, rfl, hY3⟩))
      all_goals
        have F2 := FV _ hw2
        have hw2s := F2.size
        obtain ⟨hf3, ht3, hx3⟩ := hY3.out
        have F3 : Fr (RndM StepO (fun i => M i ∨ i = l) (W.heap.size + 8) V) V W3 := (F2.mono fun _ _ h => h.elim).then hf3 (fun i hi hn e hm => by
          rcases hm with h | h | ⟨h1, h2⟩
          · exact hn (.inl (.inr h))
          · exact hn (.inl (.inl h))
          · exact hn (.inr ⟨by omega, by rw [← e]; exact h2⟩))
        have nB : ∀ i, i < W.heap.size + 8 → i ≠ l → ¬ M i → ¬ (i = l ∨ RndM StepO M (W.heap.size + 8) w2 i) := fun i h1 h2 h3 hm => by
          rcases hm with h | h | ⟨h, _⟩
          · exact h2 h
          · exact h3 h
          · omega
        have y3 := hf3.cell (p := ⟨W.heap.size, 0, none⟩) (nB _ (by simp) (by simp; omega) (fun h => by have := hMm _ h; simp at this; omega)) y2
        have q3 := hf3.cell (p := ⟨Bq, 0, none⟩) (nB _ (by simp; omega) (by simp; omega) hMq) q2
        have e8 : w1.heap.size + 2 + 0 = W.heap.size + 8 := by omega
        cases b
        · gi_wp2
          exact ⟨by first | exact F3 | (rw [e8]; exact F3), rfl, by rw [eF]; exact hx3 (by first | rfl | trivial)⟩
        · gi_wp2
          exact ⟨by first | exact F3 | (rw [e8]; exact F3), by rw [eF]; exact ht3 (by first | rfl | trivial), y3, q3⟩
  case done =>
    rintro D ys X hD hys ⟨hj, _, _⟩ hK
    gi_wp2
    go_wp2
    have fp : Fr (OwnM (fun _ => False) W.heap.size (W.heap.size + 8) X) X (X.putObj D (.deferred none)) := (Fr.put X D _).mono fun i hi e => by subst e; exact .inr ⟨by omega, .inr ⟨_, hK, rfl⟩⟩
    refine ⟨by simp, .inl ⟨_, _, rfl, run_takeDeferred hK, ?_⟩⟩
    exact ⟨_, results_none rfl _ _ _, ⟨_, rfl⟩, .inl (by have := HJ.out _ X _ hj fp; subst hys; first | exact this | exact ⟨_, rfl, this⟩)⟩
  case stop =>
    rintro D c' pre X hD hSp ⟨rfl, hjx⟩ hK
    gi_wp2
    have fp : Fr (OwnM (fun _ => False) W.heap.size (W.heap.size + 8) X) X (X.putObj D (.deferred none)) := (Fr.put X D _).mono fun i hi e => by subst e; exact .inr ⟨by omega, .inr ⟨_, hK, rfl⟩⟩
    refine ⟨by simp, .inl ⟨_, _, rfl, run_takeDeferred hK, ?_⟩⟩
    exact ⟨_, results_none rfl _ _ _, ⟨_, rfl⟩, .inr (by first | exact ⟨_, HJx.out _ X _ hjx fp⟩ | exact ⟨_, trivial, HJx.out _ X _ hjx fp⟩)⟩
end Go.Proofs.YtfmoedlnjlkiiaaDoor
