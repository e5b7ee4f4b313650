/- tight in the program: all beds are closed. -/
import Derived.Test.YtplhbklfaokjbaaDoorSafem
namespace Go.Proofs.YtplhbklfaokjbaaDoor
open Go.RowKit Go.Shelf
attribute [local go_sem] Oper.semAt_some

theorem tig_out {X : World} {R : Nat} {z : Bool} {t0 t1 t2 t3 t4 t5 t7 t8 t9 t10 t11 t12 t13 t14 t15 : Value} (h : X.cell? ⟨R, 0, none⟩ = some (.bool z)) :
    (results Tryd.f74 #[t0, t1, t2, t3, t4, t5, (.pointer (some ⟨R, 0, none⟩)), t7, t8, t9, t10, t11, t12, t13, t14, t15]).run Tryd.prog X = .ok (.bool z) X := by
  simp [results, Tryd.results74, go_sem, *]
theorem one_put {w W : World} {R : Nat} {u : Value} (k : Value) (h : W.cell? ⟨R, 0, none⟩ = some u) (hb : Below w.heap.size w W) (hR : w.heap.size ≤ R) :
    ∃ X, W.setCell ⟨R, 0, none⟩ k = X ∧ X.cell? ⟨R, 0, none⟩ = some k ∧ Below w.heap.size w X ∧ (∀ M : Nat → Prop, M R → Fr M W X) :=
  ⟨_, rfl, World.cell?_setCell_same _ _ _ h, hb.setCell hR _, fun M h1 => (Fr.refl W).setCell (.inl h1) _⟩

set_option maxRecDepth 100000 in
set_option maxHeartbeats 2000000 in
theorem tight_ok (b off cap n : Nat) (f : Nat → Nat → Int) (p : Int) (s : Nat) (w : World) (hb : b < w.heap.size) (hc : CrCells w b off n f) (hG : GoodC n f) (hT : Tab w) (hs4 : s < 4) (p0 : 0 ≤ p) (p1 : p ≤ 10000) :
    Calls Tryd.prog 74 #[.slice (some ⟨b, off, none⟩) n cap, .int .i64 p, .int .i64 s] w fun e w' => e = .returned (.bool (tiB f n p s)) ∧ Below w.heap.size w w' := by
  have HG := Lib.hid hG
  have HC := Lib.hid hc
  have HM : Hid (∀ (k : Nat) W, k < n → Below w.heap.size w W → Calls Tryd.prog 66 #[(bI f n k).val, .int .i64 p, .int .i64 s] W fun e w' => e = .returned (.bool (clB (bI f n k) p s)) ∧ Below W.heap.size W w') :=
    fun k W hk hB => closed_any _ p s W (hT.on hB) (inB_bI hG hk) (inO_bI hG hk) hs4 p0 p1
  clear hG hc hT hs4 p0 p1
  refine (callsIn_wide (n := 6)).1 ?_
  refine callsIn_of_wp_marks Tryd.func74 rfl trivial ?_ rfl
  simp only [Tryd.ntmps74, List.size_toArray, List.length_cons, List.length_nil, Nat.reduceAdd, Nat.reduceSub, Array.replicate_succ, Array.replicate_zero, List.push_toArray, List.append_toArray, List.nil_append, List.cons_append]
  refine wpIn_wide.2 ?_
  go_wp2_with (go_at_call 71; refine (beds_any _ _ _ _).mono ?_; rintro e w2 ⟨rfl, rfl⟩)
  have B0 : Below w.heap.size w ((((w.alloc (.cells #[.int .i64 p] 3)).alloc (.cells #[.int .i64 s] 3)).alloc (.cells #[.bool false] 4)).alloc (.cells #[.slice (some ⟨b, off, none⟩) n cap] 22)) := by (repeat' (first | (with_reducible exact Below.refl _ _) | (with_reducible assumption) | (with_reducible refine Below.alloc ?_ ?_ _) | (with_reducible refine Below.drew ?_) | (with_reducible refine below_drewN ?_ _) | (with_reducible refine Below.setCell ?_ ?_ _) | (with_reducible refine below_after ?_ ?_ _) | (with_reducible refine below_set ?_) | (with_reducible refine After.size_le _ ?_) | (with_reducible refine size_alloc_le ?_) | (with_reducible refine size_set_le ?_) | (with_reducible refine size_drewN_le ?_) | go_size))
  have e3 : ((((w.alloc (.cells #[.int .i64 p] 3)).alloc (.cells #[.int .i64 s] 3)).alloc (.cells #[.bool false] 4)).alloc (.cells #[.slice (some ⟨b, off, none⟩) n cap] 22)).cell? ⟨w.heap.size, 0, none⟩ = some (.int .i64 p) := by simp [go_sem]
  have e4 : ((((w.alloc (.cells #[.int .i64 p] 3)).alloc (.cells #[.int .i64 s] 3)).alloc (.cells #[.bool false] 4)).alloc (.cells #[.slice (some ⟨b, off, none⟩) n cap] 22)).cell? ⟨w.heap.size + 1, 0, none⟩ = some (.int .i64 s) := by simp [go_sem]
  have e5 : ((((w.alloc (.cells #[.int .i64 p] 3)).alloc (.cells #[.int .i64 s] 3)).alloc (.cells #[.bool false] 4)).alloc (.cells #[.slice (some ⟨b, off, none⟩) n cap] 22)).cell? ⟨w.heap.size + 1 + 1, 0, none⟩ = some (.bool false) := by simp [go_sem]
  have e7 : ((((w.alloc (.cells #[.int .i64 p] 3)).alloc (.cells #[.int .i64 s] 3)).alloc (.cells #[.bool false] 4)).alloc (.cells #[.slice (some ⟨b, off, none⟩) n cap] 22)).frozen? ⟨w.heap.size + 1 + 1, 0, none⟩ = false := by simp [go_sem]
  have ex : ((((w.alloc (.cells #[.int .i64 p] 3)).alloc (.cells #[.int .i64 s] 3)).alloc (.cells #[.bool false] 4)).alloc (.cells #[.slice (some ⟨b, off, none⟩) n cap] 22)).cell? ⟨w.heap.size + 1 + 1 + 1, 0, none⟩ = some (.slice (some ⟨b, off, none⟩) n cap) := by simp [go_sem]
  have es : ((((w.alloc (.cells #[.int .i64 p] 3)).alloc (.cells #[.int .i64 s] 3)).alloc (.cells #[.bool false] 4)).alloc (.cells #[.slice (some ⟨b, off, none⟩) n cap] 22)).heap.size = w.heap.size + 4 := by simp
  obtain ⟨W0, hW0⟩ : ∃ W0, (((w.alloc (.cells #[.int .i64 p] 3)).alloc (.cells #[.int .i64 s] 3)).alloc (.cells #[.bool false] 4)).alloc (.cells #[.slice (some ⟨b, off, none⟩) n cap] 22) = W0 := ⟨_, rfl⟩
  rw [hW0] at B0 e3 e4 e5 e7 ex es ⊢
  clear hW0
  have C0 := HC.out.on hb B0
  have box : ∀ V, Below W0.heap.size W0 V → V.cell? ⟨w.heap.size, 0, none⟩ = some (.int .i64 p) ∧ V.cell? ⟨w.heap.size + 1, 0, none⟩ = some (.int .i64 s) ∧ V.cell? ⟨w.heap.size + 1 + 1, 0, none⟩ = some (.bool false) ∧ V.frozen? ⟨w.heap.size + 1 + 1, 0, none⟩ = false := fun V hB =>
    ⟨(hB.cell (p := ⟨w.heap.size, 0, none⟩) (by simp; omega)).trans e3, (hB.cell (p := ⟨w.heap.size + 1, 0, none⟩) (by simp; omega)).trans e4, (hB.cell (p := ⟨w.heap.size + 1 + 1, 0, none⟩) (by simp; omega)).trans e5, (hB.frozen (p := ⟨w.heap.size + 1 + 1, 0, none⟩) (by simp; omega)).trans e7⟩
  refine wpIn_wide (n := 6).1 ?_
  refine wpIn_rangeFunc_fr rfl (by omega) (gf := 88) (lb := #[.pointer (some ⟨w.heap.size + 1 + 1 + 1, 0, none⟩)]) rfl trivial (enters_of Tryd.func88 (by kernel_rfl) rfl)
    (M := fun j => j = w.heap.size + 1 + 1)
    (beds1_fr 5 (by omega) (w.heap.size + 1 + 1 + 1) b off cap n f _ W0 (fun j h => by omega) (fun h => by omega) (fun h => by omega) HG.out (by omega) ex C0)
    (fun j h => by omega) (fun _ => rfl)
    (fun pre V => (∀ y ∈ pre, clB (bI f n y.1) p s = true) ∧ Below W0.heap.size W0 V)
    (fun c pre V => c = .ret ∧ ∃ pre' x, pre = pre' ++ [x] ∧ clB (bI f n (x : Ix n).1) p s = false ∧ V.cell? ⟨w.heap.size + 1 + 1, 0, none⟩ = some (.bool false) ∧ Below w.heap.size w V)
    (Bides.and (bides_pure _ _ (fun pre : List (Ix n) => ∀ y ∈ pre, clB (bI f n y.1) p s = true)) (bides_below (Nat.le_refl _) (Nat.le_refl _)))
    (fun c z A A' hs hf => by
      obtain ⟨h1, pre', x, h2, h4, h5, h7⟩ := hs
      exact ⟨h1, pre', x, h2, h4, hf.cell (p := ⟨w.heap.size + 1 + 1, 0, none⟩) (fun h => by have := h.1; dsimp only at this; omega) h5, h7.trans (hf.below (by have := h7.size; omega) (fun j hj h => by have := h.1; omega))⟩)
    ⟨by simp, Below.refl _ _⟩
    (fun x a' V => ∃ Bb, W0.heap.size + 2 + 5 ≤ Bb ∧ BedCells V Bb (bI f n x.1) ∧ a' = { tmps := #[.slice (some ⟨b, off, none⟩) n cap, .int .i64 p, .int .i64 s, undef, .pointer (some ⟨w.heap.size, 0, none⟩), .pointer (some ⟨w.heap.size + 1, 0, none⟩), .pointer (some ⟨w.heap.size + 1 + 1, 0, none⟩), .pointer (some ⟨Bb, 0, none⟩), .slice (some ⟨b, off, none⟩) n cap, .func (.func 88) #[] #[.pointer (some ⟨w.heap.size + 1 + 1 + 1, 0, none⟩)], (bI f n x.1).val, undef, undef, undef, undef, undef], defers := [] })
    (fun x a' _ A A' hs hf => by
      obtain ⟨Bb, h1, h2, h3⟩ := hs
      exact ⟨Bb, h1, bed_kept h2 hf h1, h3⟩)
    ?assign ?body ?done ?stop
  case assign =>
    rintro l' pre x V K hnx ⟨hp, hB⟩ hsz hK
    simp only [BedV.val]
    gi_wp2
    exact hK _ _ ((Fr.refl V).alloc _) ⟨hp, hB.alloc hB.size _⟩ ⟨V.heap.size, by omega, new_bed V _, rfl⟩
  case body =>
    rintro l' pre x a' V ⟨r, hr⟩ hnx ⟨hp, hB⟩ ⟨Bb, hBb, hbd, rfl⟩ hsz
    obtain ⟨k, hkn⟩ := x
    have hix := (bI_ix (f := f) hkn).1
    obtain ⟨f3, f4, f5, f7⟩ := box V hB
    have HO := Lib.hid (fun X (hX : Below w.heap.size w X) => HM.out k X hkn hX)
    have hBw := B0.trans (hB.mono B0.size)
    have HBw := Lib.hid hBw
    have HB := Lib.hid hB
    have HBb := hbd.lt
    obtain ⟨z, hz⟩ : ∃ z, clB (bI f n k) p s = z := ⟨_, rfl⟩
    have HZ := Lib.hid hz
    have HP := Lib.hid hp
    rw [hz] at HO
    clear hz hp hB hBw
    have BD := Lib.hid hbd
    generalize hgv : bI f n k = v at *
    obtain ⟨c0, c1, c2, c3, c4, c5, c6, c7, c8, c9, c10, c11, cf⟩ := hbd
    rw [hix] at c0
    simp only [BedV.val] at HO ⊢
    rw [hix] at HO ⊢
    gi_wp2
    refine ⟨trivial, (CallsIn.inRound l' (callsIn_wide.2 (HO.out _ HBw.out))).mono ?_⟩
    rintro e w2 ⟨rfl, hw2⟩
    have hB2 := HB.out.trans (hw2.mono HB.out.size)
    have hBw2 := HBw.out.trans (hw2.mono HBw.out.size)
    obtain ⟨g3, g4, g5, g7⟩ := box w2 hB2
    have HW2 := Lib.hid hw2
    have HB2 := Lib.hid hB2
    clear c0 c1 c2 c3 c4 c5 c6 c7 c8 c9 c10 c11 cf f3 f4 f5 f7 hw2 hB2
    cases z
    · obtain ⟨X, hX, x1, x3, x4⟩ := one_put (w := w) (.bool false) g5 hBw2 (by omega)
      have HX := Lib.hid hX
      clear hX
      gi_wp2
      rw [HX.out]
      refine ⟨?_, rfl, pre, ⟨k, hkn⟩, rfl, by rw [hgv]; exact HZ.out, x1, x3⟩
      exact ((Fr.refl V).call HW2.out).then (x4 (RndM (fun j => j = w.heap.size + 1 + 1) (W0.heap.size + 2 + 5) V) (.inl rfl)) (fun i _ h _ => h)
    · gi_wp2
      exact ⟨(Fr.refl V).call HW2.out, fun y hy => by
        rcases List.mem_append.1 hy with h | h
        · exact HP.out y h
        · rw [List.mem_singleton.1 h, hgv]; exact HZ.out, HB2.out⟩
  case done =>
    rintro D ys V hD hys ⟨hp, hB⟩ hK
    have e1 : tiB f n p s = true := tiB_iff.2 fun k hk => by
      have hm : k ∈ ys.map (·.1) := by rw [hys]; exact dn_has.2 ⟨by omega, hk⟩
      obtain ⟨y, h1, rfl⟩ := List.mem_map.1 hm
      exact hp y h1
    obtain ⟨f3, f4, f5, f7⟩ := box V hB
    obtain ⟨X, hX, x1, x3, x4⟩ := one_put (w := w) (.bool true) f5 (B0.trans (hB.mono B0.size)) (by omega)
    have hKX : X.heap[D]? = some (.deferred (some [])) := ((x4 (fun j => j < W0.heap.size) (by omega)).same D (Array.getElem?_eq_some_iff.1 hK).1 (by omega)).trans hK
    clear x4
    have E1 := Lib.hid e1
    have HX := Lib.hid hX
    clear e1 hX
    gi_wp2
    go_wp2
    rw [HX.out]
    refine ⟨by simp, .inl ⟨_, _, rfl, run_takeDeferred hKX, ?_⟩⟩
    have fp : Fr (fun j => W0.heap.size ≤ j) X (X.putObj D (.deferred none)) := (Fr.put X D _).mono fun j _ e => by omega
    exact ⟨_, tig_out (fp.cell (p := ⟨w.heap.size + 1 + 1, 0, none⟩) (by simp; omega) x1), by rw [E1.out], x3.trans (fp.below (by have := x3.size; omega) (fun j h => by omega))⟩
  case stop =>
    rintro D c pre X hD hSp ⟨rfl, pre', x, rfl, h3, h4, h6⟩ hK
    have e1 : tiB f n p s = false := tiB_off x.2 h3
    gi_wp2
    refine ⟨by simp, .inl ⟨_, _, rfl, run_takeDeferred hK, ?_⟩⟩
    have fp : Fr (fun j => W0.heap.size ≤ j) X (X.putObj D (.deferred none)) := (Fr.put X D _).mono fun j _ e => by omega
    exact ⟨_, tig_out (fp.cell (p := ⟨w.heap.size + 1 + 1, 0, none⟩) (by simp; omega) h4), by rw [e1], h6.trans (fp.below (by have := h6.size; omega) (fun j h => by omega))⟩
end Go.Proofs.YtplhbklfaokjbaaDoor
