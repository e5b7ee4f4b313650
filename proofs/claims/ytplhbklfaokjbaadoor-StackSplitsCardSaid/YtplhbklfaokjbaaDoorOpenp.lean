/- Open in the program. -/
import Derived.Test.YtplhbklfaokjbaaDoorRev
import Derived.OwnWalkIn
namespace Go.Proofs.YtplhbklfaokjbaaDoor
open Go.RowKit Go.Shelf
attribute [local go_sem] Oper.semAt_some

theorem open_err (a : Option Addr) (n cap : Nat) (p s e : Int) (w : World) (hW : WSay w (.slice a n cap) p s e) (he : (e == 0) = false) :
    Calls Tryd.prog 31 #[.slice a n cap, .int .i64 p, .int .i64 s] w fun r w' => r = .returned (.tuple #[.slice none 0 0, .int .i64 e]) ∧ Below w.heap.size w w' := by
  have HV : Hid (∀ W, Below w.heap.size w W → _) := hW
  clear hW
  go_enter Tryd.func31, Tryd.ntmps31
  go_wp2_with fail
  refine calls_after (HV.out _ (by (repeat' (first | (with_reducible exact Below.refl _ _) | (with_reducible assumption) | (with_reducible refine Below.alloc ?_ ?_ _) | (with_reducible refine Below.drew ?_) | (with_reducible refine below_drewN ?_ _) | (with_reducible refine Below.setCell ?_ ?_ _) | (with_reducible refine below_after ?_ ?_ _) | (with_reducible refine below_set ?_) | (with_reducible refine After.size_le _ ?_) | (with_reducible refine size_alloc_le ?_) | (with_reducible refine size_set_le ?_) | (with_reducible refine size_drewN_le ?_) | go_size)))) ?_
  intro x1
  go_wp2
  go_returns
  exact ⟨rfl, by (repeat' (first | (with_reducible exact Below.refl _ _) | (with_reducible assumption) | (with_reducible refine Below.alloc ?_ ?_ _) | (with_reducible refine Below.drew ?_) | (with_reducible refine below_drewN ?_ _) | (with_reducible refine Below.setCell ?_ ?_ _) | (with_reducible refine below_after ?_ ?_ _) | (with_reducible refine below_set ?_) | (with_reducible refine After.size_le _ ?_) | (with_reducible refine size_alloc_le ?_) | (with_reducible refine size_set_le ?_) | (with_reducible refine size_drewN_le ?_) | go_size))⟩

/-- The open beds among those met, from the top. -/
def dL {n : Nat} (f : Nat → Nat → Int) (p : Int) (s : Nat) (pre : List (Ix n)) : List Nat := (pre.map (·.1)).filter (fun k => !clB (bI f n k) p s)
theorem dL_snoc {n : Nat} (f : Nat → Nat → Int) (p : Int) (s : Nat) (pre : List (Ix n)) (x : Ix n) : dL f p s (pre ++ [x]) = dL f p s pre ++ if clB (bI f n x.1) p s then [] else [x.1] := by
  unfold dL
  rw [List.map_append, List.filter_append]
  cases h : clB (bI f n x.1) p s <;> simp [h]
theorem dL_le {n : Nat} (f : Nat → Nat → Int) (p : Int) (s : Nat) (pre : List (Ix n)) : (dL f p s pre).length ≤ pre.length := by
  unfold dL
  have := List.length_filter_le (fun k => !clB (bI f n k) p s) (pre.map (·.1))
  simpa using this
theorem dn_rev (n : Nat) : (dn n 0).reverse = List.range n := by
  apply List.ext_getElem
  · simp [dn]
  · intro i h1 h2
    simp [dn] at h1 h2 ⊢
    omega
theorem dL_rev {n : Nat} {f : Nat → Nat → Int} {p : Int} {s : Nat} {ys : List (Ix n)} (h : ys.map (·.1) = dn n 0) : (dL f p s ys).reverse = opL f n p s n := by
  unfold dL opL
  rw [h, ← List.filter_reverse, dn_rev]
theorem owns_cells {B : Nat} {e : TypeId} {k : Nat} {v : Value} {n : Nat} {xs : List Value} {w : World} (h : w.ownsRow B e k v n xs) {g : Nat} (hg : v.ownBlock = some g) : ∀ o, w.heap[g]? = some o → o.isCells = true := by
  rcases h with ⟨_, ⟨rfl, _⟩ | ⟨g', cap, cur, rfl, _, a3, _⟩⟩
  · cases hg
  · intro o ho
    cases hg
    rw [a3] at ho
    cases ho
    rfl
theorem opn_out {X : World} {v : Value} {e : Int} {t0 t1 t2 t3 t4 t5 t8 t9 t10 t11 t12 t13 t14 t15 t16 t17 t18 t19 t20 t21 t22 t23 t24 t25 t26 t27 t28 t29 t30 t31 t32 t33 : Value} :
    (results Tryd.f31 #[t0, t1, t2, t3, t4, t5, v, .int .i64 e, t8, t9, t10, t11, t12, t13, t14, t15, t16, t17, t18, t19, t20, t21, t22, t23, t24, t25, t26, t27, t28, t29, t30, t31, t32, t33]).run Tryd.prog X = .ok (.tuple #[v, .int .i64 e]) X := by
  simp [results, Tryd.results31, go_sem]
/-- The call's own boxes behind a call. -/
theorem two_boxes (p s : Int) (w w1 : World) (hb : Below ((w.alloc (.cells #[.int .i64 p] 3)).alloc (.cells #[.int .i64 s] 3)).heap.size ((w.alloc (.cells #[.int .i64 p] 3)).alloc (.cells #[.int .i64 s] 3)) w1) :
    Below w.heap.size w w1 ∧ w.heap.size + 2 ≤ w1.heap.size ∧ w1.cell? ⟨w.heap.size, 0, none⟩ = some (.int .i64 p) ∧ w1.cell? ⟨w.heap.size + 1, 0, none⟩ = some (.int .i64 s) := by
  have hf : Fr (fun _ => False) _ w1 := fr_below hb
  have hs := hb.size
  simp only [World.size_alloc] at hs
  exact ⟨(by (repeat' (first | (with_reducible exact Below.refl _ _) | (with_reducible assumption) | (with_reducible refine Below.alloc ?_ ?_ _) | (with_reducible refine Below.drew ?_) | (with_reducible refine below_drewN ?_ _) | (with_reducible refine Below.setCell ?_ ?_ _) | (with_reducible refine below_after ?_ ?_ _) | (with_reducible refine below_set ?_) | (with_reducible refine After.size_le _ ?_) | (with_reducible refine size_alloc_le ?_) | (with_reducible refine size_set_le ?_) | (with_reducible refine size_drewN_le ?_) | go_size)) : Below w.heap.size w _).trans (hb.mono (by simp; omega)), by omega, hf.cell id (by simp [go_sem]), hf.cell id (by simp [go_sem])⟩

set_option maxRecDepth 100000 in
set_option maxHeartbeats 2000000 in
theorem open_ok (b off cap n : Nat) (f : Nat → Nat → Int) (p : Int) (s : Nat) (w : World) (hb : b < w.heap.size) (hc : CrCells w b off n f) (hG : GoodC n f) (hT : Tab w) (hw : WindOk p s) (hW : WSay w (.slice (some ⟨b, off, none⟩) n cap) p s 0) :
    Calls Tryd.prog 31 #[.slice (some ⟨b, off, none⟩) n cap, .int .i64 p, .int .i64 s] w fun e w' => ∃ v, e = .returned (.tuple #[v, .int .i64 0]) ∧ IRow w' w.heap.size v (opL f n p s n) ∧ Below w.heap.size w w' := by
  have HV : Hid (∀ W, Below w.heap.size w W → _) := hW
  have HG := Lib.hid hG
  have h60 := hG.2.1
  have HC := Lib.hid hc
  have hs4 : s < 4 := by have := hw.2; unfold Btw at this; omega
  have HM : Hid (∀ (k : Nat) W, k < n → Below w.heap.size w W → Calls Tryd.prog 66 #[(bI f n k).val, .int .i64 p, .int .i64 s] W fun e w' => e = .returned (.bool (clB (bI f n k) p s)) ∧ Below W.heap.size W w') :=
    fun k W hk hB => closed_any _ p s W (hT.on hB) (inB_bI hG hk) (inO_bI hG hk) hs4 hw.1.1 hw.1.2
  obtain ⟨i0, hi, hz0, hz1, hz2⟩ := info_parts ixInfo
  clear hW hG hc hT hw hs4
  refine (callsIn_wide (n := 6)).1 ?_
  refine callsIn_of_wp_marks Tryd.func31 rfl trivial ?_ rfl
  simp only [Tryd.ntmps31, List.size_toArray, List.length_cons, List.length_nil, Nat.reduceAdd, Nat.reduceSub, Array.replicate_succ, Array.replicate_zero, List.push_toArray, List.append_toArray, List.nil_append, List.cons_append]
  refine wpIn_wide.2 ?_
  go_wp2_with fail
  refine (HV.out _ (by (repeat' (first | (with_reducible exact Below.refl _ _) | (with_reducible assumption) | (with_reducible refine Below.alloc ?_ ?_ _) | (with_reducible refine Below.drew ?_) | (with_reducible refine below_drewN ?_ _) | (with_reducible refine Below.setCell ?_ ?_ _) | (with_reducible refine below_after ?_ ?_ _) | (with_reducible refine below_set ?_) | (with_reducible refine After.size_le _ ?_) | (with_reducible refine size_alloc_le ?_) | (with_reducible refine size_set_le ?_) | (with_reducible refine size_drewN_le ?_) | go_size)))).mono ?_
  rintro e w1 ⟨rfl, hb1⟩
  obtain ⟨q1, q2, q3, q4⟩ := two_boxes p s w w1 hb1
  clear hb1
  have Q := Lib.hid (And.intro q1 (And.intro q3 q4))
  clear q1 q3 q4
  go_wp2_with (go_at_call 71; refine (beds_any _ _ _ _).mono ?_; rintro e w2 ⟨rfl, rfl⟩)
  obtain ⟨q1, q3, q4⟩ := Q.out
  have B1 : Below w1.heap.size w1 ((w1.alloc (.cells #[.slice none 0 0] 41)).alloc (.cells #[.slice (some ⟨b, off, none⟩) n cap] 22)) := by (repeat' (first | (with_reducible exact Below.refl _ _) | (with_reducible assumption) | (with_reducible refine Below.alloc ?_ ?_ _) | (with_reducible refine Below.drew ?_) | (with_reducible refine below_drewN ?_ _) | (with_reducible refine Below.setCell ?_ ?_ _) | (with_reducible refine below_after ?_ ?_ _) | (with_reducible refine below_set ?_) | (with_reducible refine After.size_le _ ?_) | (with_reducible refine size_alloc_le ?_) | (with_reducible refine size_set_le ?_) | (with_reducible refine size_drewN_le ?_) | go_size))
  have er : ((w1.alloc (.cells #[.slice none 0 0] 41)).alloc (.cells #[.slice (some ⟨b, off, none⟩) n cap] 22)).cell? ⟨w1.heap.size, 0, none⟩ = some (.slice none 0 0) := by simp [go_sem]
  have ef : ((w1.alloc (.cells #[.slice none 0 0] 41)).alloc (.cells #[.slice (some ⟨b, off, none⟩) n cap] 22)).frozen? ⟨w1.heap.size, 0, none⟩ = false := by simp [go_sem]
  have ex : ((w1.alloc (.cells #[.slice none 0 0] 41)).alloc (.cells #[.slice (some ⟨b, off, none⟩) n cap] 22)).cell? ⟨w1.heap.size + 1, 0, none⟩ = some (.slice (some ⟨b, off, none⟩) n cap) := by simp [go_sem]
  have es : ((w1.alloc (.cells #[.slice none 0 0] 41)).alloc (.cells #[.slice (some ⟨b, off, none⟩) n cap] 22)).heap.size = w1.heap.size + 2 := by simp
  obtain ⟨W0, hW0⟩ : ∃ W0, (w1.alloc (.cells #[.slice none 0 0] 41)).alloc (.cells #[.slice (some ⟨b, off, none⟩) n cap] 22) = W0 := ⟨_, rfl⟩
  rw [hW0] at B1 er ef ex es ⊢
  clear hW0 HV
  have B0 := q1.trans (B1.mono q1.size)
  have C0 := HC.out.on hb B0
  have box : ∀ V, Below w1.heap.size w1 V → V.cell? ⟨w.heap.size, 0, none⟩ = some (.int .i64 p) ∧ V.cell? ⟨w.heap.size + 1, 0, none⟩ = some (.int .i64 s) := fun V hB =>
    ⟨(hB.cell (p := ⟨w.heap.size, 0, none⟩) (by simp; omega)).trans q3, (hB.cell (p := ⟨w.heap.size + 1, 0, none⟩) (by simp; omega)).trans q4⟩
  refine wpIn_wide (n := 6).1 ?_
  refine wpIn_rangeFunc_fr rfl (by omega) (gf := 88) (lb := #[.pointer (some ⟨w1.heap.size + 1, 0, none⟩)]) rfl trivial (enters_of Tryd.func88 (by kernel_rfl) rfl)
    (M := fun j => j = w1.heap.size)
    (beds1_fr 5 (by omega) (w1.heap.size + 1) b off cap n f _ W0 (fun j h => by omega) (fun h => by omega) (fun h => by omega) HG.out (by omega) ex C0)
    (fun j h => by omega) (fun _ => rfl)
    (fun pre V => (∃ v, V.cell? ⟨w1.heap.size, 0, none⟩ = some v ∧ V.frozen? ⟨w1.heap.size, 0, none⟩ = false ∧ V.ownsRow (W0.heap.size + 2 + 5) 3 1 v (dL f p s pre).length (ixC (dL f p s pre))) ∧ Below w1.heap.size w1 V)
    (fun _ _ _ => False)
    (fun pre A A' hs hf => by
      obtain ⟨⟨v, h1, h2, h3⟩, h4⟩ := hs
      exact ⟨⟨v, hf.cell (p := ⟨w1.heap.size, 0, none⟩) (fun h => by have := h.1; dsimp only at this; omega) h1, (hf.frozen (p := ⟨w1.heap.size, 0, none⟩) (fun h => by have := h.1; dsimp only at this; omega) (World.block_lt_of_cell? A _ h1)).trans h2, owns_fr h3 hf (fun g o hg ho hc hM => by
        rcases hM.2 with h | ⟨o', h5, h6⟩
        · omega
        · rw [ho] at h5; cases h5; rw [hc] at h6; cases h6)⟩, h4.trans (hf.below h4.size (fun j hj h => by have := h.1; omega))⟩)
    (fun _ _ _ _ hs _ => hs)
    ⟨⟨_, er, ef, World.ownsRow_nil _ _ _ _⟩, B1⟩
    (fun x a' V => ∃ Bb, W0.heap.size + 2 + 5 ≤ Bb ∧ BedCells V Bb (bI f n x.1) ∧ a' = { tmps := #[.slice (some ⟨b, off, none⟩) n cap, .int .i64 p, .int .i64 s, undef, .pointer (some ⟨w.heap.size, 0, none⟩), .pointer (some ⟨w.heap.size + 1, 0, none⟩), .slice none 0 0, .int .i64 0, .int .i64 0, .pointer (some ⟨w1.heap.size, 0, none⟩), .pointer (some ⟨Bb, 0, none⟩), .slice (some ⟨b, off, none⟩) n cap, .int .i64 p, .int .i64 s, .int .i64 0, .int .i64 0, .bool false, undef, .slice (some ⟨b, off, none⟩) n cap, .func (.func 88) #[] #[.pointer (some ⟨w1.heap.size + 1, 0, none⟩)], (bI f n x.1).val, undef, undef, undef, undef, undef, undef, undef, undef, undef, undef, undef, undef, undef], defers := [] })
    (fun x a' _ A A' hs hf => by
      obtain ⟨Bb, h1, h2, h3⟩ := hs
      exact ⟨Bb, h1, bed_kept h2 hf h1, h3⟩)
    ?assign ?body ?done ?stop
  case assign =>
    rintro l' pre x V K hnx ⟨⟨v, h1, h2, h3⟩, hB⟩ hsz hK
    simp only [BedV.val]
    gi_wp2
    exact hK _ _ ((Fr.refl V).alloc _) ⟨⟨v, keep_alloc h1, by rw [((Fr.refl (M := fun _ => False) V).alloc _).frozen (p := ⟨w1.heap.size, 0, none⟩) id (World.block_lt_of_cell? V _ h1)]; exact h2, h3.alloc _⟩, hB.alloc hB.size _⟩ ⟨V.heap.size, by omega, new_bed V _, rfl⟩
  case body =>
    rintro l' pre x a' V ⟨r, hr⟩ hnx ⟨⟨v, h1, h2, h3⟩, hB⟩ ⟨Bb, hBb, hbd, rfl⟩ hsz
    obtain ⟨k, hkn⟩ := x
    have hix := (bI_ix (f := f) hkn).1
    obtain ⟨f3, f4⟩ := box V hB
    have hBw := q1.trans (hB.mono q1.size)
    have HO := Lib.hid (HM.out k V hkn hBw)
    have HBw := Lib.hid hBw
    have HB := Lib.hid hB
    have HBb := hbd.lt
    have hdl := dL_le f p s pre
    have hpl : pre.length ≤ 60 := by
      have := congrArg List.length hnx
      rw [dn_len, List.length_map] at this
      omega
    have HS := Lib.hid (dL_snoc f p s pre ⟨k, hkn⟩)
    dsimp only at HS
    have HR := Lib.hid h3
    have hR : w1.heap.size < V.heap.size := World.block_lt_of_cell? V _ h1
    generalize clB (bI f n k) p s = z at *
    clear hB hBw h3
    have BD := Lib.hid hbd
    generalize hgv : bI f n k = u at *
    obtain ⟨c0, c1, c2, c3, c4, c5, c6, c7, c8, c9, c10, c11, cf⟩ := hbd
    rw [hix] at c0
    simp only [BedV.val] at HO ⊢
    rw [hix] at HO ⊢
    gi_wp2
    refine ⟨trivial, (CallsIn.inRound l' (callsIn_wide.2 HO.out)).mono ?_⟩
    rintro e w2 ⟨rfl, hw2⟩
    have F2 : Fr (fun _ => False) V w2 := (Fr.refl V).call hw2
    have g1 := F2.cell (p := ⟨w1.heap.size, 0, none⟩) id h1
    have g2 := (F2.frozen (p := ⟨w1.heap.size, 0, none⟩) id hR).trans h2
    have HW2 := Lib.hid hw2
    have hown := owns_on HR.out hw2
    have hs2 := hw2.size
    have i0' := (BD.out.fr (M := fun _ => False) F2 id).1
    rw [hix] at i0'
    clear c0 c1 c2 c3 c4 c5 c6 c7 c8 c9 c10 c11 cf f3 f4 hw2 h1 h2
    cases z
    · have HOW := Lib.hid hown
      gi_wp2_with (gi_at_builtin; refine wpListIn_append_own _ rfl _ _ 41 rfl (W0.heap.size + 2 + 5) 3 i0 (.int .i64 0) 1 8 Tryd.underlying41 hi hz0 hz1 hz2 rfl (by decide) _ _ _ rfl (HOW.out.alloc _) ⟨w2.heap.size, 0, none⟩ 1 1 [.int .i64 k] rfl rfl (World.news_of_block (cs := #[.int .i64 k]) (t := 3) (fr := (0, 0)) (heap_alloc_new w2 _)) (by simp [Value.oneCell']) (by unfold maxLen; omega) (by omega) (by simp; omega) ?_; intro v' w3 hown' hgrow _; obtain ⟨g', cap', rfl⟩ := Go.Joins.ownsRow_form hown' (by omega); have F3 : Fr (fun g => W0.heap.size + 2 + 5 ≤ g) w2 w3 := ((Fr.refl w2).alloc _).grown hgrow (fun k e => .inl (hown.lt k e).1); have hc1 := F3.cell (p := ⟨w1.heap.size, 0, none⟩) (by simp; omega) g1; have hf1 := (F3.frozen (p := ⟨w1.heap.size, 0, none⟩) (by simp; omega) (by simp; omega)).trans g2)
      have FV : Fr (RndM (fun j => j = w1.heap.size) (W0.heap.size + 2 + 5) V) V w3 := (((Fr.refl V).call HW2.out).alloc _).grown hgrow (fun g e => .inl (.inr ⟨(HOW.out.lt g e).1, fun o ho => owns_cells HR.out e o ho⟩))
      refine ⟨FV.setCell (.inl (.inl rfl)) _, ⟨_, World.cell?_setCell_same _ _ _ hc1, by simpa using hf1, ?_⟩, ((HB.out.trans (HW2.out.mono HB.out.size)).trans (F3.below (by omega) (fun i h => by omega))).setCell (Nat.le_refl _) _⟩
      rw [HS.out]
      have := owns_fr hown' ((Fr.refl w3).setCell (M := fun g => g = w1.heap.size) (p := ⟨w1.heap.size, 0, none⟩) (.inl rfl) (.slice (some ⟨g', 0, none⟩) ((dL f p s pre).length + 1) cap')) (fun g o hg _ _ hM => by omega)
      simpa [ixC] using this
    · gi_wp2
      exact ⟨(Fr.refl V).call HW2.out, ⟨v, g1, g2, by rw [HS.out]; simpa using hown⟩, HB.out.trans (HW2.out.mono HB.out.size)⟩
  case done =>
    rintro D ys V hD hys ⟨⟨v, h1, h2, h3⟩, hB⟩ hK
    have hlen : ys.length = n := by
      have := congrArg List.length hys
      rw [dn_len, List.length_map] at this
      omega
    have HREV := Lib.hid (rev_any h3 (by have := dL_le f p s ys; omega))
    rw [dL_rev hys] at HREV
    have H3 := Lib.hid h3
    have hDV : D < V.heap.size := (Array.getElem?_eq_some_iff.1 hK).1
    have hBw := Lib.hid (q1.trans (hB.mono q1.size))
    have HK := Lib.hid hK
    have hVs := hB.size
    clear h3 hB hK h2
    go_wp2_with (go_at_call 72; refine HREV.out.mono ?_; rintro e w3 ⟨rfl, hir, hgr⟩; have F4 : Fr (fun g => W0.heap.size + 2 + 5 ≤ g) V w3 := (Fr.refl V).grown hgr (fun g e => .inl (H3.out.lt g e).1); have k1 := F4.cell (p := ⟨w1.heap.size, 0, none⟩) (by simp; omega) h1; have HGR := Lib.hid hgr; have HIR := Lib.hid hir; have HF4 := Lib.hid F4; clear hir hgr F4)
    have hKX : w3.heap[D]? = some (.deferred (some [])) := (HGR.out.block D hDV (fun e => by have := owns_cells H3.out e.symm _ HK.out; cases this)).trans HK.out
    refine ⟨by simp, .inl ⟨_, _, rfl, run_takeDeferred hKX, ?_⟩⟩
    have fp : Fr (fun j => j = D) w3 (w3.putObj D (.deferred none)) := Fr.put w3 D _
    refine ⟨_, opn_out, v, rfl, ?_, (hBw.out.trans (HF4.out.below (by have := hBw.out.size; omega) (fun i h => by omega))).trans (fp.below (by have := hBw.out.size; have := HF4.out.size; omega) (fun j h => by omega))⟩
    obtain ⟨a, cap', rfl, hh⟩ := HIR.out
    refine ⟨a, cap', rfl, fun hl0 => ?_⟩
    obtain ⟨g, rfl, a1, a2, a3⟩ := hh hl0
    have hgD : g ≠ D := by
      rintro rfl
      obtain ⟨o, ho, hoc⟩ := cells_of_cell (a3 0 hl0)
      rw [hKX] at ho
      cases ho
      cases hoc
    exact ⟨g, rfl, by omega, by simpa using a2, fun i hi => fp.cell (p := ⟨g, i, none⟩) hgD (a3 i hi)⟩
  case stop =>
    rintro D c pre X _ _ h _
    exact h.elim
end Go.Proofs.YtplhbklfaokjbaaDoor
