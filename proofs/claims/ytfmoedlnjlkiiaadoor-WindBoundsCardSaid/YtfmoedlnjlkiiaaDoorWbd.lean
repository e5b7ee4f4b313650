/- Bounds in the program: the counts after a minute, the walk. -/
import Derived.Test.YtfmoedlnjlkiiaaDoorWbc
import Derived.Test.YtfmoedlnjlkiiaaDoorWdkq
namespace Go.Proofs.YtfmoedlnjlkiiaaDoor
open Go.RowKit
attribute [local go_sem] After.cell After.frozen After.lt After.le After.ne After.ne' After.set_eq After.size_set After.lt_add

theorem load_all {W : World} {g n : Nat} {t : TypeId} {cs : Array Value} (hg : W.heap[g]? = some (.cells cs t (0, 0))) (hn : cs.size = n) : (loadCellsFrom ⟨g, 0, none⟩ 0 n #[]).run Tryd.prog W = .ok cs W := by
  subst hn
  have := run_loadCells_list (P := Tryd.prog) W ⟨g, 0, none⟩ cs.toList (fun j v hv => by
    have hadd : (⟨g, 0, none⟩ : Addr).add j = ⟨g, j, none⟩ := by unfold Addr.add; split <;> simp_all
    rw [hadd, cell_of_row _ _ j cs t (0, 0) hg]
    simpa using hv)
  simpa [loadCells] using this
/-- A tally in its box. -/
structure BxT (W : World) (X : Nat) (t : Ty) : Prop where
  obj : W.heap[X]? = some (.cells #[.bool (tyc t), .int .i64 (ty1 t), .int .i64 (ty2 t)] 88 (0, 0))
theorem BxT.cells {W : World} {X : Nat} {t : Ty} (h : BxT W X t) : W.cell? ⟨X, 0, none⟩ = some (.bool (tyc t)) ∧ W.cell? ⟨X, 1, none⟩ = some (.int .i64 (ty1 t)) ∧ W.cell? ⟨X, 2, none⟩ = some (.int .i64 (ty2 t)) := by
  refine ⟨?_, ?_, ?_⟩ <;> (rw [cell_of_row W X _ _ _ (0, 0) h.obj]; rfl)
theorem obj_lt {W : World} {X : Nat} {o : Obj} (h : W.heap[X]? = some o) : X < W.heap.size := by
  rcases Nat.lt_or_ge X W.heap.size with h1 | h1
  · exact h1
  · rw [Array.getElem?_eq_none h1] at h
    cases h
theorem obj_on {W W' : World} {X : Nat} {o : Obj} (h : W.heap[X]? = some o) (hb : Below W.heap.size W W') : W'.heap[X]? = some o := (hb.block X (obj_lt h)).trans h
/-- All tallies in their block. -/
structure BxA (W : World) (X : Nat) (T : Nat → Ty) : Prop where
  obj : W.heap[X]? = some (.cells (cvA T) 112 (0, 0))
theorem BxA.cells {W : World} {X : Nat} {T : Nat → Ty} (h : BxA W X T) (j : Nat) (hj : j < 241) : W.cell? ⟨X, j * 3, none⟩ = some (.bool (tyc (T j))) ∧ W.cell? ⟨X, j * 3 + 1, none⟩ = some (.int .i64 (ty1 (T j))) ∧ W.cell? ⟨X, j * 3 + 2, none⟩ = some (.int .i64 (ty2 (T j))) := by
  refine ⟨?_, ?_, ?_⟩ <;> rw [cell_of_row W X _ _ _ (0, 0) h.obj, cvA_get (by omega)]
  · rw [cvAt0]
  · rw [cvAt1]
  · rw [cvAt2]
theorem BxA.free {W : World} {X : Nat} {T : Nat → Ty} (h : BxA W X T) (j : Nat) : W.frozen? ⟨X, j, none⟩ = false := frozen_of_row W X j _ _ h.obj
theorem BxA.set {W : World} {X : Nat} {T : Nat → Ty} (h : BxA W X T) {j : Nat} (hj : j < 241) (t : Ty) : BxA (((W.setCell ⟨X, j * 3, none⟩ (.bool (tyc t))).setCell ⟨X, j * 3 + 1, none⟩ (.int .i64 (ty1 t))).setCell ⟨X, j * 3 + 2, none⟩ (.int .i64 (ty2 t))) X (setT T j t) :=
  ⟨by rw [← cvA_set hj t]; exact Go.Joins.block_setCell (Go.Joins.block_setCell (Go.Joins.block_setCell h.obj _) _) _⟩

theorem store_all {W : World} {g n : Nat} {t : TypeId} {c c' : Array Value} (hg : W.heap[g]? = some (.cells c t (0, 0))) (hi : (Tryd.prog.info? t).map (·.size) = some n) (hc : c.size = n) (hc' : c'.size = n) (h1 : c'.all (·.oneCell') = true) :
    (storeCells ⟨g, 0, none⟩ c'.toList).run Tryd.prog W = .ok () (W.setRow g c') := by
  subst hc'
  have := run_storeVar_row (P := Tryd.prog) W g t t c c' hg hi hc h1
  cases hq : Tryd.prog.info? t with
  | none => simp [hq] at hi
  | some i =>
    have hs : c'.size = i.size := by simp [hq] at hi; omega
    simpa [storeVar, sizeOf, typeInfo, hq, Value.cells, hs] using this
theorem zeroSize : (Tryd.zeroCells112).size = 723 := by rw [zero_cvA]; exact cvA_size _
theorem nx_bd {s g c w x : Int} (hc : 1 ≤ c) (hw : 0 ≤ w ∧ w ≤ c) : 0 ≤ nxW s g c w x ∧ nxW s g c w x ≤ c := by
  unfold nxW
  split <;> split <;> omega

attribute [-simp] Tryd.isAgg112 Tryd.sizeOf112
set_option maxRecDepth 100000 in
set_option maxHeartbeats 2000000 in
theorem after_say (T : Nat → Ty) (s g c : Int) (a : Option Addr) (n cap : Nat) (f : Nat → Int) (S : Int → Int → Prop) (w : World) (hA : IAt w a n f) (hn : n ≤ 5)
    (hT : ∀ k : Nat, k < 241 → Rep (S k) (T k)) (hS : ∀ v m, S v m → (0 ≤ v ∧ v ≤ c) ∧ 0 ≤ m ∧ m ≤ 100000) (hc : 1 ≤ c ∧ c ≤ 240) :
    Calls Tryd.prog 82 #[.agg (cvA T), .agg #[goF s g c, stF s g c], .slice a n cap] w fun e w' => (∃ T', e = .returned (.agg (cvA T')) ∧ ∀ v : Nat, v < 241 → Rep (Acc s g c S (fun _ x => ∃ i, i < n ∧ x = f i) v) (T' v)) ∧ Below w.heap.size w w' := by
  have HSt := Lib.hid (fun (v x : Int) (hv : 0 ≤ v ∧ v ≤ 1000) W => step_any s g c v x W hv)
  have HIx := Lib.hid (cvA_index T)
  have HT := Lib.hid hT
  have HS := Lib.hid hS
  have HA := Lib.hid hA
  have hAs := cvA_size T
  have hn0 : ∀ v, n = v → (n : Int) ≤ 5 := by omega
  generalize cvA T = A at *
  generalize hG : goF s g c = G at *
  generalize hH : stF s g c = H at *
  clear hA hT hS hG hH
  go_enter Tryd.func82, Tryd.ntmps82
  go_wp2
  obtain ⟨V0, hV0⟩ : ∃ V0, V0 = ((w.alloc (.cells A 112)).alloc (.cells #[G, H] 107)).alloc (.cells Tryd.zeroCells112 112) := ⟨_, rfl⟩
  have hvs : V0.heap.size = w.heap.size + 1 + 1 + 1 := by rw [hV0]; simp
  have hvb : Below w.heap.size w V0 := by rw [hV0]; (repeat' (first | (with_reducible exact Below.refl _ _) | (with_reducible assumption) | (with_reducible refine Below.alloc ?_ ?_ _) | (with_reducible refine Below.drew ?_) | (with_reducible refine below_drewN ?_ _) | (with_reducible refine Below.setCell ?_ ?_ _) | (with_reducible refine below_after ?_ ?_ _) | (with_reducible refine below_set ?_) | (with_reducible refine After.size_le _ ?_) | (with_reducible refine size_alloc_le ?_) | (with_reducible refine size_set_le ?_) | (with_reducible refine size_drewN_le ?_) | go_size))
  have hs1 : w.heap.size + 1 < V0.heap.size := by omega
  have hv0 : V0.heap[w.heap.size]? = some (.cells A 112 (0, 0)) := by rw [hV0, Go.heap_alloc_old _ _ (by simp; omega), Go.heap_alloc_old _ _ (by simp), heap_alloc_new]
  have hg0 : V0.cell? ⟨w.heap.size + 1, 0, none⟩ = some G := by rw [hV0]; simp [go_sem]
  have hg1 : V0.cell? ⟨w.heap.size + 1, 1, none⟩ = some H := by rw [hV0]; simp [go_sem]
  have hv2 : V0.heap[w.heap.size + 1 + 1]? = some (.cells Tryd.zeroCells112 112 (0, 0)) := by
    have h := heap_alloc_new ((w.alloc (.cells A 112)).alloc (.cells #[G, H] 107)) (.cells Tryd.zeroCells112 112)
    rw [show ((w.alloc (.cells A 112)).alloc (.cells #[G, H] 107)).heap.size = w.heap.size + 1 + 1 by simp] at h
    rw [hV0]; exact h
  rw [← hV0]
  have hlc := load_all (n := 723) (W := V0.alloc (.cells Tryd.zeroCells112 112)) (obj_on hv0 (by (repeat' (first | (with_reducible exact Below.refl _ _) | (with_reducible assumption) | (with_reducible refine Below.alloc ?_ ?_ _) | (with_reducible refine Below.drew ?_) | (with_reducible refine below_drewN ?_ _) | (with_reducible refine Below.setCell ?_ ?_ _) | (with_reducible refine below_after ?_ ?_ _) | (with_reducible refine below_set ?_) | (with_reducible refine After.size_le _ ?_) | (with_reducible refine size_alloc_le ?_) | (with_reducible refine size_set_le ?_) | (with_reducible refine size_drewN_le ?_) | go_size)))) hAs
  clear hV0 hv0
  simp only [Tryd.isAgg112, Tryd.sizeOf112, Result.andThen, ↓reduceIte, hlc]
  rw [Oper.upon_value]
  go_wp2
  have hBA0 : BxA (V0.alloc (.cells Tryd.zeroCells112 112)) (w.heap.size + 1 + 1 + 1) fun _ => none := ⟨by rw [← zero_cvA, ← hvs]; exact heap_alloc_new _ _⟩
  have HA0 := Lib.hid (HA.out.on hvb)
  clear hlc
  have hR2 := Lib.hid hv2
  clear hv2
  have HVS := Lib.hid hvs
  clear hvs
  go_loopw [8, 9, 11, 12, 14] (fun _ _ _ _ i wr => ∃ k : Nat, k ≤ 241 ∧ i = .int .i64 k ∧ ∃ x : After V0, wr = x.w ∧ ∃ T', Hid (BxA x.w (w.heap.size + 1 + 1 + 1) T') ∧ Hid (RepA s g c S n f k 0 T')) (fun _ _ _ _ i _ => 241 - (intOf i).toNat)
  case atStart => exact ⟨0, by omega, rfl, ⟨_, (Below.refl _ V0).alloc (Nat.le_refl _) _⟩, rfl, _, Lib.hid hBA0, Lib.hid ra_zero⟩
  case round =>
    obtain ⟨k, hk, rfl, x, rfl, T', HB, HR⟩ := hrel
    by_cases hlt : k < 241
    · have hlti : (k : Int) < 241 := by omega
      have hix := HIx.out k hlt
      have hTk := HT.out k hlt
      have hsx := x.out.size
      cases htk : T k with
      | none =>
        rw [htk] at hix hTk
        have HR' := Lib.hid (ra_skip hTk HR.out)
        clear htk hTk HR
        unfold tyV tyc ty1 ty2 at hix
        go_wp2
        go_roundw
        case rel => exact ⟨k + 1, by omega, by go_num, ⟨_, x.out.alloc hsx _⟩, rfl, T', Lib.hid ⟨obj_on HB.out.obj ((Below.refl _ x.w).alloc (Nat.le_refl _) _)⟩, HR'⟩
        case measure => simp [intOf]; omega
      | some p =>
        obtain ⟨p1, p2⟩ := p
        rw [htk] at hix hTk
        have e1 := HS.out _ _ hTk.1
        have e2 := HS.out _ _ hTk.2.1
        have HTk := Lib.hid hTk
        have HBx := Lib.hid (⟨obj_on HB.out.obj ((Below.refl _ x.w).alloc (Nat.le_refl _) (.cells #[.bool true, .int .i64 p1, .int .i64 p2] 88))⟩ : BxA (x.w.alloc (.cells #[.bool true, .int .i64 p1, .int .i64 p2] 88)) (w.heap.size + 1 + 1 + 1) T')
        have hbx0 := Lib.hid (⟨heap_alloc_new x.w _⟩ : BxT (x.w.alloc (.cells #[.bool true, .int .i64 p1, .int .i64 p2] 88)) x.w.heap.size (some (p1, p2)))
        have hy0 := x.out.alloc hsx (.cells #[.bool true, .int .i64 p1, .int .i64 p2] 88)
        clear htk hTk HB
        unfold tyV tyc ty1 ty2 at hix
        simp only [] at hix e1 e2
        obtain ⟨X, hX⟩ : ∃ X, X = x.w.heap.size := ⟨_, rfl⟩
        rw [← hX] at hbx0
        go_wp2
        rw [← hX]
        clear hX hix
        go_loopw [11, 12, 23] (fun _ _ i wr => ∃ j : Nat, j ≤ n ∧ i = .int .i64 j ∧ ∃ y : After V0, wr = y.w ∧ Hid (BxT y.w X (some (p1, p2))) ∧ ∃ T'', Hid (BxA y.w (w.heap.size + 1 + 1 + 1) T'') ∧ Hid (RepA s g c S n f k j T'')) (fun _ _ i _ => n - (intOf i).toNat)
        case atStart => exact ⟨0, by omega, rfl, ⟨_, hy0⟩, rfl, hbx0, _, HBx, HR⟩
        case round =>
          obtain ⟨j, hj, rfl, y, rfl, hbx, T'', HB, HR⟩ := hrel
          by_cases hjn : j < n
          · have hjI : (j : Int) < (n : Int) := by omega
            obtain ⟨b, off, rfl, hb, c1⟩ := HA0.out j hjn
            obtain ⟨v, hv⟩ : ∃ v : Nat, nxW s g c k (f j) = v := ⟨(nxW s g c k (f j)).toNat, by have := nx_bd (s := s) (g := g) (x := f j) hc.1 e1.1; omega⟩
            have hv241 : v < 241 := by have := nx_bd (s := s) (g := g) (x := f j) hc.1 e1.1; omega
            have HS1 := Lib.hid (fun W => HSt.out k (f j) (by omega) W)
            rw [hv] at HS1
            have HRn := Lib.hid (ra_step HR.out HTk.out hv)
            have HW := Lib.hid (fun W => with_any p1 p2 k v W (by omega) (by omega))
            have HO := Lib.hid (fun W => or_any (T'' v) (wiT (goD k v) (some (p1, p2))) W)
            have HSet := Lib.hid (fun (W : World) (h : BxA W (w.heap.size + 1 + 1 + 1) T'') => h.set hv241 (orT (T'' v) (wiT (goD k v) (some (p1, p2)))))
            unfold tyV at HO
            have ew : (tyc (wiT (goD k v) (some (p1, p2))) = true ∧ ty1 (wiT (goD k v) (some (p1, p2))) = p1 + goD k v) ∧ ty2 (wiT (goD k v) (some (p1, p2))) = p2 + goD k v := ⟨⟨rfl, rfl⟩, rfl⟩
            rw [ew.1.1, ew.1.2, ew.2] at HO
            clear ew hv HR
            generalize orT (T'' v) (wiT (goD k v) (some (p1, p2))) = R at *
            generalize p1 + goD k v = q1 at *
            generalize p2 + goD k v = q2 at *
            generalize f j = fj at *
            go_wp2_with fail
            refine (HS1.out _).mono ?_
            rintro e w1 ⟨rfl, hb1⟩
            have hbx1 := Lib.hid (⟨obj_on hbx.out.obj hb1⟩ : BxT w1 X (some (p1, p2)))
            have HB1 := Lib.hid (⟨obj_on HB.out.obj hb1⟩ : BxA w1 (w.heap.size + 1 + 1 + 1) T'')
            obtain ⟨y1, rfl⟩ : ∃ y1 : After V0, w1 = y1.w := ⟨⟨w1, y.out.trans (hb1.mono y.out.size)⟩, rfl⟩
            clear hb1 HS1 hbx HB
            go_wp2_with fail
            obtain ⟨Y, hY⟩ : ∃ Y, Y = y1.w.alloc (.cells #[.int .i64 k, .int .i64 v] 86) := ⟨_, rfl⟩
            have hBY : Below y1.w.heap.size y1.w Y := by rw [hY]; exact (Below.refl _ y1.w).alloc (Nat.le_refl _) _
            have hq0 : Y.cell? ⟨y1.w.heap.size, 0, none⟩ = some (.int .i64 k) := by rw [hY]; simp [go_sem]
            have hq1 : Y.cell? ⟨y1.w.heap.size, 1, none⟩ = some (.int .i64 v) := by rw [hY]; simp [go_sem]
            have hYs : y1.w.heap.size < Y.heap.size := by rw [hY]; simp
            have hbxY := Lib.hid (⟨obj_on hbx1.out.obj hBY⟩ : BxT Y X (some (p1, p2)))
            have HBY := Lib.hid (⟨obj_on HB1.out.obj hBY⟩ : BxA Y (w.heap.size + 1 + 1 + 1) T'')
            obtain ⟨t0, t1, t2⟩ := (show Y.cell? ⟨X, 0, none⟩ = some (.bool true) ∧ Y.cell? ⟨X, 1, none⟩ = some (.int .i64 p1) ∧ Y.cell? ⟨X, 2, none⟩ = some (.int .i64 p2) from hbxY.out.cells)
            have hXs := obj_lt hbxY.out.obj
            obtain ⟨n0, n1, n2⟩ := HBY.out.cells v hv241
            have f0 := HBY.out.free (v * 3)
            have f1 := HBY.out.free (v * 3 + 1)
            have f2 := HBY.out.free (v * 3 + 2)
            have hNs := obj_lt HBY.out.obj
            have HYV : Hid (Below V0.heap.size V0 Y) := Lib.hid (y1.out.trans (hBY.mono y1.out.size))
            have hvI : (v : Int) < 241 := by omega
            rw [← hY]
            generalize y1.w.heap.size = Q at *
            clear hY hBY hbx1 HB1
            refine wp_region_after_tail 11 (by kernel_rfl) (by kernel_rfl) ?_; simp only [List.take_succ_cons, List.take_zero, List.drop_succ_cons, List.drop_zero]; (repeat (first | go_big_quiet_step ((first | (go_at_call 94; exact quiet_after (HW.out _)) | (go_at_call 84; exact quiet_after (HO.out _)))) | (refine wpQuiet_step (fun K hK => ?_); go_simp; first | (refine hK _ ?_; clear hK K) | (apply Exists.intro; refine ⟨fun x => ?_, hK _ ?_⟩; (first | (go_at_call 94; exact quiet_after (HW.out _)) | (go_at_call 84; exact quiet_after (HO.out _))); clear hK K)))); refine wpQuiet_nil ?_
            intro z
            go_wp2_with fail
            simp only [← After.set_eq]
            have hne : X ≠ w.heap.size + 1 + 1 + 1 := fun e => by
              have h1 := hbxY.out.obj
              rw [e, HBY.out.obj] at h1
              simp at h1
            have hvs := HVS.out
            have hbz : BxT (((z.w.setCell ⟨w.heap.size + 1 + 1 + 1, v * 3, none⟩ (.bool (tyc R))).setCell ⟨w.heap.size + 1 + 1 + 1, v * 3 + 1, none⟩ (.int .i64 (ty1 R))).setCell ⟨w.heap.size + 1 + 1 + 1, v * 3 + 2, none⟩ (.int .i64 (ty2 R))) X (some (p1, p2)) :=
              ⟨by rw [heap_setCell_other _ _ _ _ hne, heap_setCell_other _ _ _ _ hne, heap_setCell_other _ _ _ _ hne]; exact obj_on hbxY.out.obj z.out⟩
            have hBz := HSet.out z.w ⟨obj_on HBY.out.obj z.out⟩
            have hVz : Below V0.heap.size V0 (((z.w.setCell ⟨w.heap.size + 1 + 1 + 1, v * 3, none⟩ (.bool (tyc R))).setCell ⟨w.heap.size + 1 + 1 + 1, v * 3 + 1, none⟩ (.int .i64 (ty1 R))).setCell ⟨w.heap.size + 1 + 1 + 1, v * 3 + 2, none⟩ (.int .i64 (ty2 R))) :=
              (((HYV.out.trans (z.out.mono HYV.out.size)).setCell (by dsimp only; omega) _).setCell (by dsimp only; omega) _).setCell (by dsimp only; omega) _
            clear hvs
            go_roundw
            case rel => exact ⟨j + 1, by omega, by go_num, ⟨_, hVz⟩, rfl, Lib.hid hbz, _, Lib.hid hBz, HRn⟩
            case measure => simp [intOf]; omega
          · obtain rfl : j = n := by omega
            go_wp2
            go_roundw
            case rel => exact ⟨k + 1, by omega, by go_num, y, rfl, T'', HB, Lib.hid (ra_next HR.out)⟩
            case measure => simp [intOf]; omega
    · obtain rfl : k = 241 := by omega
      have HE := Lib.hid (ra_end (fun v m h => by have := HS.out v m h; omega) HR.out)
      have hlc := load_all (n := 723) HB.out.obj (cvA_size _)
      go_wp2
      simp only [Tryd.isAgg112, Tryd.sizeOf112, Result.andThen, ↓reduceIte, hlc]
      rw [Oper.upon_value]
      go_wp2
      have hsc := store_all (c' := cvA T') (obj_on hR2.out x.out) counts_size zeroSize (cvA_size _) (cvA_one _)
      simp only [Tryd.sizeOf112, Result.andThen, cvA_size, ↓reduceIte, hsc]
      rw [Oper.upon_skip]
      go_wp2
      simp only [Act.put]
      have hvs := HVS.out
      have hBB : Below w.heap.size w x.w := hvb.trans (x.out.mono (by omega))
      have hrow := setRow_heap x.w (w.heap.size + 1 + 1) _ (cvA T') _ _ (obj_on hR2.out x.out)
      refine bodyPost_ret (v := .agg (cvA T')) ?_ rfl ⟨⟨T', rfl, HE.out⟩, hBB.os, hBB.tape, hBB.output, by rw [setRow_size]; exact hBB.size, fun b hb => (setRow_other x.w _ b _ (by omega)).trans (hBB.block b hb)⟩
      exact results_cell_row rfl _ _ _ _ _ _ _ rfl hrow Tryd.underlying112 rfl (by rw [cvA_size]; exact counts_size)
end Go.Proofs.YtfmoedlnjlkiiaaDoor
