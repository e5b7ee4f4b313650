/- A window in the program: the walk. -/
import Derived.Test.YtlnlgboeohfpdaaTwWvp
namespace Go.Proofs.Ytlnlgboeohfpdaa.Tw
open Go.Proofs.Ytlnlgboeohfpdaa
open Go.RowKit Go.Shelf
attribute [local go_sem] Oper.semAt_some

set_option maxRecDepth 100000 in
set_option maxHeartbeats 4000000 in
theorem window_ok (F : FuncId) (Bm : Nat) (eF : ∀ args w, (callFunc F args).run Try.prog w = .ok (.enter F args) w) (a : Option Addr) (n cap : Nat) (fr to lo hi : Nat → Int) (mark k from' till : Int) (s : Bool) (w : World) (hA : CAt w a n fr to lo hi) (hn : n ≤ 9223372036854775807) (hG : GoodCs n fr to lo hi) (hR : RngOk mark k from' till) (hF : AskW w F Bm mark s) :
    Calls Try.prog 18 #[.slice a n cap, .int .i64 mark, .int .i64 k, .int .i64 from', .int .i64 till, .func (.func F) #[] #[.pointer (some ⟨Bm, 0, none⟩)]] w fun e w' => (∃ v e', e = .returned (.tuple #[.int .i64 v, .int .i64 e']) ∧ WAns (fun m => fnB n fr to lo hi mark s m = true) k from' till e' v) ∧ Below w.heap.size w w' := by
  have HV := Lib.hid (validCasts_any a n cap fr to lo hi _ (hA.on (by (repeat' (first | (with_reducible exact Below.refl _ _) | (with_reducible assumption) | (with_reducible refine Below.alloc ?_ ?_ _) | (with_reducible refine Below.drew ?_) | (with_reducible refine below_drewN ?_ _) | (with_reducible refine Below.setCell ?_ ?_ _) | (with_reducible refine below_after ?_ ?_ _) | (with_reducible refine below_set ?_) | (with_reducible refine After.size_le _ ?_) | (with_reducible refine size_alloc_le ?_) | (with_reducible refine size_set_le ?_) | (with_reducible refine size_drewN_le ?_) | go_size)) : Below w.heap.size w (((((w.alloc (.cells #[.int .i64 k] 3)).alloc (.cells #[.int .i64 till] 3)).alloc (.cells #[.func (.func F) #[] #[.pointer (some ⟨Bm, 0, none⟩)]] 49)).alloc (.cells #[.int .i64 0] 3)).alloc (.cells #[.int .i64 0] 31)))) hn)
  rw [decide_eq_true hG] at HV
  obtain ⟨hcs, hn200⟩ := hG
  obtain ⟨h1, h2, h3⟩ := hR
  have H1 := Lib.hid (fun W => between_b mark 1 200 W (decide_eq_true h1))
  have H2 := Lib.hid (fun W => between_b k 1 10000 W (decide_eq_true h2))
  have H3 := Lib.hid (fun W => within_b from' till 100000 W (decide_eq_true h3))
  unfold Btw at h1 h2
  unfold Wth at h3
  obtain ⟨hseg, hend⟩ := seg_whA (mark := mark) (s := s) hcs h1.1 h1.2
  have HSeg := Lib.hid hseg
  have HEnd := Lib.hid hend
  have HF : Hid (∀ W, Below w.heap.size w W → _) := hF
  have HA := Lib.hid hA
  clear hA hF hseg hend hcs
  refine (callsIn_wide (n := 6)).1 ?_
  refine callsIn_of_wp_marks Try.func18 rfl trivial ?_ rfl
  simp only [Try.ntmps18, List.size_toArray, List.length_cons, List.length_nil, Nat.reduceAdd, Nat.reduceSub, Array.replicate_succ, Array.replicate_zero, List.push_toArray, List.append_toArray, List.nil_append, List.cons_append]
  refine wpIn_wide.2 ?_
  go_wp2_with fail
  refine (HV.out).mono ?_
  rintro e w1 ⟨rfl, hb1⟩
  obtain ⟨hB1, hX1⟩ := win_boxes k till (.func (.func F) #[] #[.pointer (some ⟨Bm, 0, none⟩)]) w w1 hb1
  clear HV hb1
  obtain ⟨cn, ct, ca, cr, ce, zr, ze⟩ := id hX1
  have HX1 := Lib.hid hX1
  have HW := Lib.hid (whole_mk a n cap)
  clear hX1
  go_wp2_with (first | (go_at_call 17; (first | (with_reducible refine (H1.out _).mono ?_) | (with_reducible refine (H2.out _).mono ?_)); rintro e w9 ⟨rfl, rfl⟩) | (go_at_call 26; refine (H3.out _).mono ?_; rintro e w9 ⟨rfl, rfl⟩) | (go_at_call 27; refine (HW.out _).mono ?_; rintro e w9 ⟨rfl, rfl⟩))
  have hx1 := HX1.out.lt
  clear cn ct ca cr ce zr ze H1 H2 H3 HW
  obtain ⟨W0, hW0⟩ : ∃ W0, (w1.alloc (.cells #[.int .i64 from'] 3)).alloc (.cells #[.slice a n cap] 24) = W0 := ⟨_, rfl⟩
  have fa : Fr (fun _ => False) w1 W0 := by rw [← hW0]; exact ((Fr.refl w1).alloc _).alloc _
  have B0 : Below w.heap.size w W0 := by rw [← hW0]; exact (hB1.alloc hB1.size _).alloc (by simp; have := hB1.size; omega) _
  have b0 := HX1.out.fr fa (fun _ _ _ => id)
  have eg : W0.cell? ⟨w1.heap.size, 0, none⟩ = some (.int .i64 from') := by rw [← hW0]; simp [go_sem]
  have fg : W0.frozen? ⟨w1.heap.size, 0, none⟩ = false := by rw [← hW0]; simp [go_sem]
  have ex : W0.cell? ⟨w1.heap.size + 1, 0, none⟩ = some (.slice a n cap) := by rw [← hW0]; simp [go_sem]
  have es : W0.heap.size = w1.heap.size + 2 := by rw [← hW0]; simp
  rw [hW0]
  clear hW0 fa HX1
  have C0 := HA.out.on B0
  have hab : ∀ b off, a = some ⟨b, off, none⟩ → 0 < n → b < w.heap.size := fun b off e h => by
    obtain ⟨b', off', e', h1, _⟩ := HA.out 0 h
    rw [e] at e'; cases e'; exact h1
  clear HA
  refine wpIn_wide (n := 6).1 ?_
  refine wpIn_rangeFunc_fr rfl (by omega) (gf := 31) (lb := #[.pointer (some ⟨w1.heap.size + 1, 0, none⟩)]) rfl trivial (enters_of Try.func31 (by kernel_rfl) rfl)
    (O := fun _ => False) (M := fun j => j = w1.heap.size ∨ j = w.heap.size + 1 + 1 + 1 ∨ j = w.heap.size + 1 + 1 + 1 + 1) (fun _ h => h.elim)
    (whole1_fr 5 (by omega) (w1.heap.size + 1) a n cap fr to lo hi _ W0 (fun j h => by omega) (fun b off e h0 h => by have := hab b off e h0; omega) hn200 ex C0)
    (fun j h => by omega) (fun _ => rfl)
    (fun pre V => ∃ bg, WInv (fun m => fnB n fr to lo hi mark s m = true) k from' till (endQ pre) bg ∧ bg ≤ 200000 ∧ V.cell? ⟨w1.heap.size, 0, none⟩ = some (.int .i64 bg) ∧ V.frozen? ⟨w1.heap.size, 0, none⟩ = false ∧ WBx V w.heap.size k till (.func (.func F) #[] #[.pointer (some ⟨Bm, 0, none⟩)]) 0 0 ∧ Below w.heap.size w V)
    (fun c pre V => c = .ret ∧ ∃ v, WAns (fun m => fnB n fr to lo hi mark s m = true) k from' till 0 v ∧ V.cell? ⟨w.heap.size + 1 + 1 + 1, 0, none⟩ = some (.int .i64 v) ∧ V.cell? ⟨w.heap.size + 1 + 1 + 1 + 1, 0, none⟩ = some (.int .i64 0) ∧ Below w.heap.size w V)
    (fun pre A A' hs hf => by
      obtain ⟨bg, h1, h2, h3, h4, h5, h6⟩ := hs
      have nb : ∀ i, i < W0.heap.size → ¬ OwnM (fun _ => False) W0.heap.size (W0.heap.size + 2 + 0) A i := fun i hi h => by
        rcases h with h | ⟨h, _⟩
        · exact h
        · omega
      exact ⟨bg, h1, h2, hf.cell (p := ⟨w1.heap.size, 0, none⟩) (nb _ (by dsimp only; omega)) h3, (hf.frozen (p := ⟨w1.heap.size, 0, none⟩) (nb _ (by dsimp only; omega)) (World.block_lt_of_cell? A _ h3)).trans h4, h5.fr hf (fun j _ hj => nb j (by omega)), h6.trans (hf.below h6.size (fun j hj => nb j (by omega)))⟩)
    (fun c pre A A' hs hf => by
      obtain ⟨h0, v, h1, h2, h3, h4⟩ := hs
      have nb : ∀ i, i < W0.heap.size → ¬ OwnM (fun _ => False) W0.heap.size (W0.heap.size + 2 + 0) A i := fun i hi h => by
        rcases h with h | ⟨h, _⟩
        · exact h
        · omega
      exact ⟨h0, v, h1, hf.cell (p := ⟨w.heap.size + 1 + 1 + 1, 0, none⟩) (nb _ (by dsimp only; omega)) h2, hf.cell (p := ⟨w.heap.size + 1 + 1 + 1 + 1, 0, none⟩) (nb _ (by dsimp only; omega)) h3, h4.trans (hf.below h4.size (fun j hj => nb j (by omega)))⟩)
    ⟨from', WInv.start h3.1 h2.1, by omega, eg, fg, b0, B0⟩
    (fun x a' V => ∃ Bc, W0.heap.size + 2 + 0 ≤ Bc ∧ BxC V Bc x.1 x.2.1 x.2.2.1 x.2.2.2 ∧ a' = { tmps := #[.slice a n cap, .int .i64 mark, .int .i64 k, .int .i64 from', .int .i64 till, .func (.func F) #[] #[.pointer (some ⟨Bm, 0, none⟩)], undef, undef, .pointer (some ⟨w.heap.size, 0, none⟩), undef, .pointer (some ⟨w.heap.size + 1, 0, none⟩), .pointer (some ⟨w.heap.size + 1 + 1, 0, none⟩), .pointer (some ⟨w.heap.size + 1 + 1 + 1, 0, none⟩), .pointer (some ⟨w.heap.size + 1 + 1 + 1 + 1, 0, none⟩), .pointer (some ⟨w1.heap.size, 0, none⟩), .pointer (some ⟨Bc, 0, none⟩), .bool false, .slice a n cap, .bool true, .bool false, .bool false, .int .i64 mark, .bool true, .bool false, .bool false, .int .i64 k, .bool true, .bool false, .bool false, .bool false, .int .i64 from', .int .i64 till, .bool true, .bool false, .bool false, .int .i64 from', .slice a n cap, .func (.func 31) #[] #[.pointer (some ⟨w1.heap.size + 1, 0, none⟩)], .agg #[.int .i64 x.1, .int .i64 x.2.1, .int .i64 x.2.2.1, .int .i64 x.2.2.2], undef, undef, undef, undef, undef, undef, undef, undef, undef, undef, undef, undef, undef, undef, undef, undef, undef], defers := [] })
    (fun x a' _ A A' hs hf => by
      obtain ⟨Bc, h1, h2, h3⟩ := hs
      refine ⟨Bc, h1, h2.fr hf (fun h => ?_), h3⟩
      rcases h with h | ⟨_, h | ⟨o, ho, hno⟩⟩
      · exact h
      · omega
      · rw [h2.obj] at ho; cases ho; cases hno)
    ?assign ?body ?done ?stop
  case assign =>
    rintro l' pre ⟨x0, x1, x2, x3⟩ V K hnx hI hsz hK
    have F1 : Fr (fun _ => False) V (V.alloc (.cells #[.int .i64 x0, .int .i64 x1, .int .i64 x2, .int .i64 x3] 43)) := (Fr.refl V).alloc _
    unfold qv
    dsimp only
    gi_wp2
    obtain ⟨bg, h1, h2, h3, h4, h5, h6⟩ := hI
    refine hK _ _ (F1.mono fun _ _ h => h.elim) ⟨bg, h1, h2, F1.cell (p := ⟨w1.heap.size, 0, none⟩) id h3, (F1.frozen (p := ⟨w1.heap.size, 0, none⟩) id (World.block_lt_of_cell? V _ h3)).trans h4, h5.fr F1 (fun _ _ _ => id), h6.trans (F1.below h6.size (fun _ _ => id))⟩ ⟨V.heap.size, by omega, BxC.new V x0 x1 x2 x3, ?_⟩
    rfl
  case body =>
    rintro l' pre ⟨x0, x1, x2, x3⟩ a' V ⟨r, hr⟩ ⟨rst, hnx⟩ ⟨bg, hI, hbg, hgc, hgz, hX, hB⟩ ⟨Bc, hBc, hbx, rfl⟩ hsz
    dsimp only at hbx ⊢
    obtain ⟨s1, s2, s3, s4, s5, s6, s7, s8, s9⟩ := HSeg.out pre (x0, x1, x2, x3) rst hnx
    dsimp only at s1 s2 s3 s4 s5 s6 s7 s8 s9
    obtain ⟨c0, c1, c2, c3⟩ := hbx.cells
    obtain ⟨cn, ct, ca, cr, ce, zr, ze⟩ := id hX
    have HO := Lib.hid (HF.out V hB x0 x1 x2 x3)
    have HE2 : Hid (endQ (pre ++ [(x0, x1, x2, x3)]) = x1) := Lib.hid (endQ_snoc _ _)
    have Hask : Hid (∀ m, x0 ≤ m → m < x1 → fnB n fr to lo hi mark s m = askC mark s x2 x3) := Lib.hid s9
    rw [← s1] at hI
    have HI := Lib.hid hI
    have HX := Lib.hid hX
    have HB := Lib.hid hB
    have HBX := Lib.hid hbx
    have hbgl := hI.lo
    clear hI hX hB hbx s9 s1 HSeg HF
    cases hz : askC mark s x2 x3
    · rw [hz] at HO
      have hno : Hid (∀ m, x0 ≤ m → m < x1 → ¬ fnB n fr to lo hi mark s m = true) := Lib.hid fun m p q => by rw [Hask.out m p q, hz]; simp
      clear hz
      gi_wp2
      refine ⟨trivial, (CallsIn.inRound l' (callsIn_wide.2 HO.out)).mono ?_⟩
      rintro e w2 ⟨rfl, hw2⟩
      have F2 : Fr (fun _ => False) V w2 := (Fr.refl V).call hw2
      have HX2 := Lib.hid (HX.out.fr F2 (fun _ _ _ => id))
      have hgc2 := F2.cell (p := ⟨w1.heap.size, 0, none⟩) id hgc
      have hgz2 := (F2.frozen (p := ⟨w1.heap.size, 0, none⟩) id (World.block_lt_of_cell? V _ hgc)).trans hgz
      obtain ⟨d0, d1, d2, d3⟩ := (HBX.out.fr F2 id).cells
      have HB2 := Lib.hid (HB.out.trans (F2.below HB.out.size (fun _ _ => id)))
      have HF2 := Lib.hid F2
      clear hw2 F2 c0 c1 c2 c3 cn ct ca cr ce zr ze hgc hgz HX HBX HB HO
      have fin : ∀ u : Int, max bg x1 = u → Fr (RndM CastO (fun j => j = w1.heap.size ∨ j = w.heap.size + 1 + 1 + 1 ∨ j = w.heap.size + 1 + 1 + 1 + 1) (w1.heap.size + 4) V) V (w2.setCell ⟨w1.heap.size, 0, none⟩ (.int .i64 u)) ∧ ∃ bg, WInv (fun m => fnB n fr to lo hi mark s m = true) k from' till (endQ (pre ++ [(x0, x1, x2, x3)])) bg ∧ bg ≤ 200000 ∧ (w2.setCell ⟨w1.heap.size, 0, none⟩ (.int .i64 u)).cell? ⟨w1.heap.size, 0, none⟩ = some (.int .i64 bg) ∧ (w2.setCell ⟨w1.heap.size, 0, none⟩ (.int .i64 u)).frozen? ⟨w1.heap.size, 0, none⟩ = false ∧ WBx (w2.setCell ⟨w1.heap.size, 0, none⟩ (.int .i64 u)) w.heap.size k till (.func (.func F) #[] #[.pointer (some ⟨Bm, 0, none⟩)]) 0 0 ∧ Below w.heap.size w (w2.setCell ⟨w1.heap.size, 0, none⟩ (.int .i64 u)) := by
        intro u hu
        subst hu
        have F3 : Fr (RndM CastO (fun j => j = w1.heap.size ∨ j = w.heap.size + 1 + 1 + 1 ∨ j = w.heap.size + 1 + 1 + 1 + 1) (w1.heap.size + 4) V) V (w2.setCell ⟨w1.heap.size, 0, none⟩ (.int .i64 (max bg x1))) := Fr.setCell (HF2.out.mono fun _ _ h => h.elim) (p := ⟨w1.heap.size, 0, none⟩) (.inl (.inl (.inl rfl))) _
        have F4 : Fr (fun j => j = w1.heap.size) w2 (w2.setCell ⟨w1.heap.size, 0, none⟩ (.int .i64 (max bg x1))) := Fr.setCell (M := fun j => j = w1.heap.size) (Fr.refl w2) (p := ⟨w1.heap.size, 0, none⟩) (.inl rfl) _
        exact ⟨F3, max bg x1, by rw [HE2.out]; exact HI.out.no h2.1 s2 hno.out, by omega, World.cell?_setCell_same _ _ _ hgc2, by simpa using hgz2, HX2.out.fr F4 (fun j h h' e => by omega), HB2.out.setCell (by dsimp only; omega) _⟩
      have FIN := Lib.hid fin
      clear fin
      gi_wp2
      all_goals (first | exact FIN.out _ (by omega))
    · rw [hz] at HO
      have hyes : Hid (∀ m, x0 ≤ m → m < x1 → fnB n fr to lo hi mark s m = true) := Lib.hid fun m p q => by rw [Hask.out m p q, hz]
      clear hz
      gi_wp2
      refine ⟨trivial, (CallsIn.inRound l' (callsIn_wide.2 HO.out)).mono ?_⟩
      rintro e w2 ⟨rfl, hw2⟩
      have F2 : Fr (fun _ => False) V w2 := (Fr.refl V).call hw2
      have HX2 := Lib.hid (HX.out.fr F2 (fun _ _ _ => id))
      have hgc2 := F2.cell (p := ⟨w1.heap.size, 0, none⟩) id hgc
      have hgz2 := (F2.frozen (p := ⟨w1.heap.size, 0, none⟩) id (World.block_lt_of_cell? V _ hgc)).trans hgz
      obtain ⟨d0, d1, d2, d3⟩ := (HBX.out.fr F2 id).cells
      have HB2 := Lib.hid (HB.out.trans (F2.below HB.out.size (fun _ _ => id)))
      have HF2 := Lib.hid F2
      clear hw2 F2 c0 c1 c2 c3 cn ct ca cr ce zr ze hgc hgz HX HBX HB HO
      obtain ⟨cn, ct, ca, cr, ce, zr, ze⟩ := id HX2.out
      obtain ⟨X, hX, y1, y2, y3, y4⟩ := HX2.out.put bg 0 w HB2.out (Nat.le_refl _)
      have HX := Lib.hid hX
      clear hX
      by_cases hge : k ≤ min x1 till - bg
      · have hgd : decide (k ≤ min x1 till - bg) = true := decide_eq_true hge
        gi_wp2
        all_goals
          rw [HX.out]
          refine ⟨?_, rfl, bg, HI.out.found hyes.out hge, y1, y2, y3⟩
          exact (HF2.out.mono fun _ _ h => h.elim).then (y4 (RndM CastO (fun j => j = w1.heap.size ∨ j = w.heap.size + 1 + 1 + 1 ∨ j = w.heap.size + 1 + 1 + 1 + 1) (w1.heap.size + 4) V) (.inl (.inr (.inl rfl))) (.inl (.inr (.inr rfl)))) (fun i _ h _ => h)
      · have hgd : decide (k ≤ min x1 till - bg) = false := decide_eq_false hge
        clear y1 y2 y3 y4 HX
        gi_wp2
        all_goals
          exact ⟨HF2.out.mono fun _ _ h => h.elim, bg, by rw [HE2.out]; exact HI.out.stay hyes.out (by omega), hbg, hgc2, hgz2, HX2.out, HB2.out⟩
  case done =>
    rintro D ys V hD rfl ⟨bg, hI, hbg, hgc, hgz, hX, hB⟩ hK
    rw [HEnd.out] at hI
    have hA0 := Lib.hid (hI.none h3.2.2)
    obtain ⟨cn, ct, ca, cr, ce, zr, ze⟩ := id hX
    obtain ⟨X, hX', y1, y2, y3, y4⟩ := hX.put 0 8 w hB (Nat.le_refl _)
    have hKX : X.heap[D]? = some (.deferred (some [])) := ((y4 (fun j => j < W0.heap.size) (by omega) (by omega)).same D (Array.getElem?_eq_some_iff.1 hK).1 (by omega)).trans hK
    have HX := Lib.hid hX'
    clear y4 hX' hI hX
    gi_wp2
    go_wp2
    rw [HX.out]
    refine ⟨by simp, .inl ⟨_, _, rfl, run_takeDeferred hKX, ?_⟩⟩
    have fp : Fr (fun j => W0.heap.size ≤ j) X (X.putObj D (.deferred none)) := (Fr.put X D _).mono fun j _ e => by omega
    exact ⟨_, win_out (fp.cell (p := ⟨w.heap.size + 1 + 1 + 1, 0, none⟩) (by dsimp only; omega) y1) (fp.cell (p := ⟨w.heap.size + 1 + 1 + 1 + 1, 0, none⟩) (by dsimp only; omega) y2), ⟨_, _, rfl, hA0.out⟩, y3.trans (fp.below (by have := y3.size; omega) (fun j h => by omega))⟩
  case stop =>
    rintro D c pre X hD hSp ⟨rfl, v, h1, h4, h5, h6⟩ hK
    have hA0 := Lib.hid h1
    clear h1
    gi_wp2
    refine ⟨by simp, .inl ⟨_, _, rfl, run_takeDeferred hK, ?_⟩⟩
    have fp : Fr (fun j => W0.heap.size ≤ j) X (X.putObj D (.deferred none)) := (Fr.put X D _).mono fun j _ e => by omega
    exact ⟨_, win_out (fp.cell (p := ⟨w.heap.size + 1 + 1 + 1, 0, none⟩) (by dsimp only; omega) h4) (fp.cell (p := ⟨w.heap.size + 1 + 1 + 1 + 1, 0, none⟩) (by dsimp only; omega) h5), ⟨_, _, rfl, hA0.out⟩, h6.trans (fp.below (by have := h6.size; omega) (fun j h => by omega))⟩
end Go.Proofs.Ytlnlgboeohfpdaa.Tw
