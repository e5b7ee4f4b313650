/- Resumes in the program. -/
import Derived.Test.YtfmoedlnjlkiiaaDoorWdq
namespace Go.Proofs.YtfmoedlnjlkiiaaDoor
open Go.RowKit Go.Shelf
attribute [local go_sem] Oper.semAt_some

theorem res_out {X : World} {t0 t1 t2 t3 v4 v5 t6 t7 t8 t9 t10 t11 t12 t13 t14 t15 t16 t17 t18 t19 t20 t21 t22 t23 t24 : Value} :
    (results Tryd.f25 #[t0, t1, t2, t3, v4, v5, t6, t7, t8, t9, t10, t11, t12, t13, t14, t15, t16, t17, t18, t19, t20, t21, t22, t23, t24]).run Tryd.prog X = .ok (.tuple #[v4, v5]) X := by
  simp [results, Tryd.results25, go_sem]
theorem resumes_bad (s g c : Int) (a : Option Addr) (n cap : Nat) (w : World) (hV : ∀ W, Below w.heap.size w W → Calls Tryd.prog 50 #[waV s g c a n cap] W fun e w' => e = .returned (.bool false) ∧ Below W.heap.size W w') :
    Calls Tryd.prog 25 #[.agg #[.int .i64 s, .int .i64 g, .int .i64 c], .slice a n cap] w fun e w' => e = .returned (.tuple #[.int .i64 0, .int .i64 1]) ∧ Below w.heap.size w w' := by
  have HV := Lib.hid hV
  unfold waV at HV
  go_enter Tryd.func25, Tryd.ntmps25
  go_wp2_with fail
  refine calls_after (HV.out _ (by (repeat' (first | (with_reducible exact Below.refl _ _) | (with_reducible assumption) | (with_reducible refine Below.alloc ?_ ?_ _) | (with_reducible refine Below.drew ?_) | (with_reducible refine below_drewN ?_ _) | (with_reducible refine Below.setCell ?_ ?_ _) | (with_reducible refine below_after ?_ ?_ _) | (with_reducible refine below_set ?_) | (with_reducible refine After.size_le _ ?_) | (with_reducible refine size_alloc_le ?_) | (with_reducible refine size_set_le ?_) | (with_reducible refine size_drewN_le ?_) | go_size)))) ?_
  intro x1
  go_wp2
  go_returns
  exact ⟨rfl, by (repeat' (first | (with_reducible exact Below.refl _ _) | (with_reducible assumption) | (with_reducible refine Below.alloc ?_ ?_ _) | (with_reducible refine Below.drew ?_) | (with_reducible refine below_drewN ?_ _) | (with_reducible refine Below.setCell ?_ ?_ _) | (with_reducible refine below_after ?_ ?_ _) | (with_reducible refine below_set ?_) | (with_reducible refine After.size_le _ ?_) | (with_reducible refine size_alloc_le ?_) | (with_reducible refine size_set_le ?_) | (with_reducible refine size_drewN_le ?_) | go_size))⟩
set_option maxRecDepth 100000 in
set_option maxHeartbeats 2000000 in
theorem resumes_ok (s g c : Int) (a : Option Addr) (n cap : Nat) (f : Nat → Int) (w : World) (hA : IAt w a n f) (hk : AskB s g c n f = true) (E : Int) (hE : Hid (E = if wt s g c f n = 0 then 10 else 0)) :
    Calls Tryd.prog 25 #[.agg #[.int .i64 s, .int .i64 g, .int .i64 c], .slice a n cap] w fun e w' => e = .returned (.tuple #[.int .i64 (wt s g c f n), .int .i64 E]) ∧ Below w.heap.size w w' := by
  have HV := Lib.hid (fun W (hW : Below w.heap.size w W) => valid_any s g c a n cap f W (hA.on hW))
  rw [hk] at HV
  obtain ⟨hc, hn, hf⟩ := ask_c hk
  have HA := Lib.hid hA
  have HM := Lib.hid (fun w => minutes_any s g c a n cap w)
  have hab : ∀ b off, a = some ⟨b, off, none⟩ → 0 < n → b < w.heap.size := fun b off e h => by
    obtain ⟨b', off', e', h1, _⟩ := hA 0 h
    rw [e] at e'; cases e'; exact h1
  unfold waV at *
  refine (callsIn_wide (n := 6)).1 ?_
  refine callsIn_of_wp_marks Tryd.func25 rfl trivial ?_ rfl
  simp only [Tryd.ntmps25, List.size_toArray, List.length_cons, List.length_nil, Nat.reduceAdd, Nat.reduceSub, Array.replicate_succ, Array.replicate_zero, List.push_toArray, List.append_toArray, List.nil_append, List.cons_append]
  refine wpIn_wide.2 ?_
  go_wp2_with fail
  refine (HV.out _ (by (repeat' (first | (with_reducible exact Below.refl _ _) | (with_reducible assumption) | (with_reducible refine Below.alloc ?_ ?_ _) | (with_reducible refine Below.drew ?_) | (with_reducible refine below_drewN ?_ _) | (with_reducible refine Below.setCell ?_ ?_ _) | (with_reducible refine below_after ?_ ?_ _) | (with_reducible refine below_set ?_) | (with_reducible refine After.size_le _ ?_) | (with_reducible refine size_alloc_le ?_) | (with_reducible refine size_set_le ?_) | (with_reducible refine size_drewN_le ?_) | go_size)))).mono ?_
  rintro e w1 ⟨rfl, hb1⟩
  have hB1 : Below w.heap.size w w1 := Below.trans (by (repeat' (first | (with_reducible exact Below.refl _ _) | (with_reducible assumption) | (with_reducible refine Below.alloc ?_ ?_ _) | (with_reducible refine Below.drew ?_) | (with_reducible refine below_drewN ?_ _) | (with_reducible refine Below.setCell ?_ ?_ _) | (with_reducible refine below_after ?_ ?_ _) | (with_reducible refine below_set ?_) | (with_reducible refine After.size_le _ ?_) | (with_reducible refine size_alloc_le ?_) | (with_reducible refine size_set_le ?_) | (with_reducible refine size_drewN_le ?_) | go_size))) (hb1.mono (by simp; omega))
  have c0 := (hb1.cell (p := ⟨w.heap.size + 1, 0, none⟩) (by simp)).trans (b := _) (c := some (.int .i64 s)) (by simp [go_sem])
  have c1 := (hb1.cell (p := ⟨w.heap.size + 1, 1, none⟩) (by simp)).trans (b := _) (c := some (.int .i64 g)) (by simp [go_sem])
  have c2 := (hb1.cell (p := ⟨w.heap.size + 1, 2, none⟩) (by simp)).trans (b := _) (c := some (.int .i64 c)) (by simp [go_sem])
  have c3 := (hb1.cell (p := ⟨w.heap.size + 1, 3, none⟩) (by simp)).trans (b := _) (c := some (.slice a n cap)) (by simp [go_sem])
  have hs1 := hb1.size
  simp only [World.size_alloc] at hs1
  have hlt : w.heap.size + 1 < w1.heap.size := by omega
  clear hb1 HV
  go_wp2_with (go_at_call 63; refine (HM.out _).mono ?_; rintro e w2 ⟨rfl, hb2, hs2, hB2⟩)
  have cw := (hb2.cell (p := ⟨w1.heap.size, 0, none⟩) (by simp)).trans (b := _) (c := some (.int .i64 0)) (by simp [go_sem])
  have fw := (hb2.frozen (p := ⟨w1.heap.size, 0, none⟩) (by simp)).trans (b := _) (c := false) (by simp [go_sem])
  have B2 : Below w.heap.size w w2 := hB1.trans (Below.trans (by have := hB1.size; (repeat' (first | (with_reducible exact Below.refl _ _) | (with_reducible assumption) | (with_reducible refine Below.alloc ?_ ?_ _) | (with_reducible refine Below.drew ?_) | (with_reducible refine below_drewN ?_ _) | (with_reducible refine Below.setCell ?_ ?_ _) | (with_reducible refine below_after ?_ ?_ _) | (with_reducible refine below_set ?_) | (with_reducible refine After.size_le _ ?_) | (with_reducible refine size_alloc_le ?_) | (with_reducible refine size_set_le ?_) | (with_reducible refine size_drewN_le ?_) | go_size))) (hb2.mono (by have := hB1.size; simp; omega)))
  have F2 : Fr (fun _ => False) w w2 := (Fr.refl w).call B2
  simp only [World.size_alloc] at hs2 hB2
  clear hb2 HM c0 c1 c2 c3
  have hS1 := hB1.size
  refine wpIn_wide (n := 6).1 ?_
  refine wpIn_rangeFunc_fr rfl (by omega) (gf := 80) (lb := #[.pointer (some ⟨w1.heap.size + 1, 0, none⟩), .pointer (some ⟨w1.heap.size + 1 + 4, 0, none⟩)]) rfl trivial (enters_of Tryd.func80 (by kernel_rfl) rfl)
    (O := fun _ => False) (M := fun j => j = w1.heap.size) (fun _ h => h.elim)
    (minutes1_fr 5 (by omega) (w1.heap.size + 1) (w1.heap.size + 1 + 4) s g c a n cap f _ w2 (fun i h => by omega) (fun h => by omega) (fun h => by omega) (fun b off e h0 h => by have := hab b off e h0; omega) hc hn hB2 (HA.out.fr F2 (fun _ _ _ _ => id)))
    (fun j h => by omega) (fun _ => rfl)
    (fun pre V => (V.cell? ⟨w1.heap.size, 0, none⟩ = some (.int .i64 (wt s g c f pre.length)) ∧ V.frozen? ⟨w1.heap.size, 0, none⟩ = false) ∧ Below w.heap.size w V)
    (fun _ _ _ => False)
    (fun pre A A' hs hf => by
      obtain ⟨⟨h1, h2⟩, h5⟩ := hs
      have nb : ∀ i, i < w2.heap.size → ¬ OwnM (fun _ => False) w2.heap.size (w2.heap.size + 2 + 0) A i := fun i hi h => by
        rcases h with h | ⟨h, _⟩
        · exact h
        · omega
      exact ⟨⟨hf.cell (p := ⟨w1.heap.size, 0, none⟩) (nb _ (by simp; omega)) h1, (hf.frozen (p := ⟨w1.heap.size, 0, none⟩) (nb _ (by simp; omega)) (World.block_lt_of_cell? A _ h1)).trans h2⟩, h5.trans (hf.below h5.size (fun j hj h => by rcases h with h | ⟨h, _⟩; exact h; omega))⟩)
    (fun _ _ _ _ hs _ => hs)
    ⟨⟨cw, fw⟩, B2⟩
    (fun x a' V => ∃ Bc, w2.heap.size + 2 + 0 ≤ Bc ∧ V.cell? ⟨Bc, 1, none⟩ = some (.int .i64 (wt s g c f (x + 1))) ∧
      a' = { tmps := #[.agg #[.int .i64 s, .int .i64 g, .int .i64 c], .slice a n cap, .pointer (some ⟨w.heap.size, 0, none⟩), undef, .int .i64 0, .int .i64 0, .pointer (some ⟨w.heap.size + 1, 0, none⟩), .pointer (some ⟨w1.heap.size, 0, none⟩), undef, .pointer (some ⟨Bc, 0, none⟩), .agg #[.int .i64 s, .int .i64 g, .int .i64 c], .slice a n cap, .agg #[.int .i64 s, .int .i64 g, .int .i64 c, .slice a n cap], .agg #[.int .i64 s, .int .i64 g, .int .i64 c, .slice a n cap], .bool true, .bool false, .agg #[.int .i64 s, .int .i64 g, .int .i64 c, .slice a n cap], .func (.func 80) #[] #[.pointer (some ⟨w1.heap.size + 1, 0, none⟩), .pointer (some ⟨w1.heap.size + 1 + 4, 0, none⟩)], .int .i64 x, .agg #[.int .i64 (wt s g c f x), .int .i64 (wt s g c f (x + 1))], undef, undef, undef, undef, undef], defers := [] })
    (fun x a' _ A A' hs hf => by
      obtain ⟨Bc, h1, h2, h4⟩ := hs
      have nb : ¬ OwnM (fun _ => False) w2.heap.size (w2.heap.size + 2 + 0) A Bc := fun h => by
        rcases h with h | ⟨_, h | ⟨o, ho, hno⟩⟩
        · exact h
        · omega
        · obtain ⟨o', h6, h7⟩ := cells_of_cell h2
          rw [h6] at ho; cases ho; rw [h7] at hno; cases hno
      exact ⟨Bc, h1, hf.cell (p := ⟨Bc, 1, none⟩) nb h2, h4⟩)
    ?assign ?body ?done ?stop
  case assign =>
    rintro l' pre x V K hnx ⟨⟨h1, h2⟩, h5⟩ hsz hK
    have hbV : w1.heap.size < V.heap.size := World.block_lt_of_cell? V _ h1
    gi_wp2
    have fA : Fr (fun _ => False) V (V.alloc (.cells #[.int .i64 (wt s g c f x), .int .i64 (wt s g c f (x + 1))] 86)) := (Fr.refl V).alloc _
    exact hK _ _ (fA.mono fun _ _ h => h.elim) ⟨⟨keep_alloc h1, (fA.frozen (p := ⟨w1.heap.size, 0, none⟩) id hbV).trans h2⟩, h5.alloc h5.size _⟩ ⟨V.heap.size, by omega, by simp [go_sem], rfl⟩
  case body =>
    rintro l' pre x a' V ⟨r, hr⟩ hnx ⟨⟨h1, h2⟩, hB⟩ ⟨Bc, hBc, hc1, rfl⟩ hsz
    have HB := Lib.hid hB
    have hbV : w1.heap.size < V.heap.size := World.block_lt_of_cell? V _ h1
    have hpl : pre.length = x := by rw [hnx.1, List.length_range]
    have hpl1 : (pre ++ [x]).length = x + 1 := by rw [List.length_append, hpl]; rfl
    clear hB hnx
    rw [hpl] at h1
    obtain ⟨u', hu⟩ : ∃ u', wt s g c f (x + 1) = u' := ⟨_, rfl⟩
    have HU := Lib.hid hu
    rw [hu] at hc1 ⊢
    clear hu
    generalize wt s g c f x = u at *
    gi_wp2
    have FV : Fr (fun j => j = w1.heap.size) V (V.setCell ⟨w1.heap.size, 0, none⟩ (.int .i64 u')) := (Fr.refl (M := fun j => j = w1.heap.size) V).setCell (p := ⟨w1.heap.size, 0, none⟩) (.inl rfl) _
    exact ⟨FV.mono fun _ _ h => .inl h, ⟨by rw [hpl1, HU.out]; exact World.cell?_setCell_same _ _ _ h1, by simpa using h2⟩, HB.out.setCell (by simp; omega) _⟩
  case done =>
    rintro D ys V hD hys ⟨⟨h1, h2⟩, hB⟩ hK
    have HB := Lib.hid hB
    have hVs := hB.size
    have hys' : ys.length = n := by rw [hys, List.length_range]
    rw [hys'] at h1
    clear hB h2 hys hys'
    have fp : Fr (fun j => j = D) V (V.putObj D (.deferred none)) := Fr.put V D _
    by_cases h0 : wt s g c f n = 0
    · have HE : Hid (E = 10) := Lib.hid (by rw [hE.out, if_pos h0])
      have H0 := Lib.hid h0
      rw [h0] at h1
      clear h0
      gi_wp2
      go_wp2
      refine ⟨by simp, .inl ⟨_, _, rfl, run_takeDeferred hK, ?_⟩⟩
      exact ⟨_, res_out, by rw [HE.out, H0.out], HB.out.trans (fp.below hVs (fun j h h' => by omega))⟩
    · have HE : Hid (E = 0) := Lib.hid (by rw [hE.out, if_neg h0])
      have h0' : (wt s g c f n == 0) = false := beq_eq_false_iff_ne.2 h0
      obtain ⟨u, hu⟩ : ∃ u, wt s g c f n = u := ⟨_, rfl⟩
      have HU := Lib.hid hu
      rw [hu] at h1 h0'
      clear hu h0
      gi_wp2
      go_wp2
      refine ⟨by simp, .inl ⟨_, _, rfl, run_takeDeferred hK, ?_⟩⟩
      exact ⟨_, res_out, by rw [HE.out, HU.out], HB.out.trans (fp.below hVs (fun j h h' => by omega))⟩
  case stop =>
    rintro D c pre X _ _ h _
    exact h.elim
theorem resumes_say (s g c : Int) (a : Option Addr) (n cap : Nat) (f : Nat → Int) (w : World) (hA : IAt w a n f) :
    Calls Tryd.prog 25 #[.agg #[.int .i64 s, .int .i64 g, .int .i64 c], .slice a n cap] w fun e w' => e = .returned (.tuple #[.int .i64 (reN s g c n f), .int .i64 (reE s g c n f)]) ∧ Below w.heap.size w w' := by
  unfold reE reN
  cases hk : AskB s g c n f
  · refine resumes_bad s g c a n cap w fun W hW => ?_
    have := valid_any s g c a n cap f W (hA.on hW)
    rw [hk] at this
    exact this
  · exact resumes_ok s g c a n cap f w hA hk _ (Lib.hid rfl)
end Go.Proofs.YtfmoedlnjlkiiaaDoor
