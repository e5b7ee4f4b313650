/- Kept in the program: the walk. -/
import Derived.Test.YtfmoedlnjlkiiaaDoorWdkp
namespace Go.Proofs.YtfmoedlnjlkiiaaDoor
open Go.RowKit
attribute [local go_sem] After.cell After.frozen After.lt After.le After.ne After.ne' After.set_eq After.size_set After.lt_add

/-- A cast in its box. -/
structure BxC (W : World) (X : Nat) (f0 f1 f2 f3 : Int) : Prop where
  obj : W.heap[X]? = some (.cells #[.int .i64 f0, .int .i64 f1, .int .i64 f2, .int .i64 f3] 95 (0, 0))
theorem BxC.cells {W : World} {X : Nat} {f0 f1 f2 f3 : Int} (h : BxC W X f0 f1 f2 f3) : W.cell? ⟨X, 0, none⟩ = some (.int .i64 f0) ∧ W.cell? ⟨X, 1, none⟩ = some (.int .i64 f1) ∧ W.cell? ⟨X, 2, none⟩ = some (.int .i64 f2) ∧ W.cell? ⟨X, 3, none⟩ = some (.int .i64 f3) := by
  refine ⟨?_, ?_, ?_, ?_⟩ <;> (rw [cell_of_row W X _ _ _ (0, 0) h.obj]; rfl)
theorem BxC.ne {W : World} {X B n : Nat} {v : Value} {xs : List Value} {f0 f1 f2 f3 : Int} (h : BxC W X f0 f1 f2 f3) (hr : W.ownsRow B 3 1 v n xs) : v.ownBlock = none ∨ v.ownBlock ≠ some X := by
  rcases hr.2 with ⟨rfl, _⟩ | ⟨g, cap, cur, rfl, _, hg, _⟩
  · exact .inl rfl
  · right
    intro e
    have : g = X := by simpa [Value.ownBlock] using e
    subst this
    rw [h.obj] at hg
    simp at hg
theorem BxC.grown {W W' : World} {X : Nat} {row : Option Nat} {f0 f1 f2 f3 : Int} (h : BxC W X f0 f1 f2 f3) (hg : W.grownBy W' row) (hne : row ≠ some X) : BxC W' X f0 f1 f2 f3 := by
  have hlt : X < W.heap.size := by
    rcases Nat.lt_or_ge X W.heap.size with h1 | h1
    · exact h1
    · have := h.obj
      rw [Array.getElem?_eq_none h1] at this
      cases this
  exact ⟨(hg.block X hlt (fun e => hne e.symm)).trans h.obj⟩
theorem BxC.new (W : World) (f0 f1 f2 f3 : Int) : BxC (W.alloc (.cells #[.int .i64 f0, .int .i64 f1, .int .i64 f2, .int .i64 f3] 95)) W.heap.size f0 f1 f2 f3 := ⟨heap_alloc_new W _⟩
theorem BxC.on {W W' : World} {X : Nat} {f0 f1 f2 f3 : Int} (h : BxC W X f0 f1 f2 f3) (hb : Below W.heap.size W W') : BxC W' X f0 f1 f2 f3 := by
  have hlt : X < W.heap.size := by
    rcases Nat.lt_or_ge X W.heap.size with h1 | h1
    · exact h1
    · have := h.obj
      rw [Array.getElem?_eq_none h1] at this
      cases this
  exact ⟨(hb.block X hlt).trans h.obj⟩
set_option maxRecDepth 100000 in
set_option maxHeartbeats 4000000 in
theorem kept_say (a : Option Addr) (n cap : Nat) (fr to lo hi : Nat → Int) (a' : Option Addr) (m cap' : Nat) (f : Nat → Int) (w : World) (hA : CAt w a n fr to lo hi) (hG : IAt w a' m f) (hn : n ≤ 9223372036854775807) :
    Calls Tryd.prog 47 #[.slice a n cap, .slice a' m cap'] w fun e w' => (∃ v, e = .returned (.tuple #[v, .int .i64 (kpE n fr to lo hi m f)]) ∧ w'.ownsRow w.heap.size 3 1 v (kpL n fr to lo hi m f).length (mxs (kpL n fr to lo hi m f))) ∧ Below w.heap.size w w' := by
  have HV := Lib.hid (validCasts_any a n cap fr to lo hi w hA hn)
  have HV' := Lib.hid (fun W (hW : Below w.heap.size w W) => validGusts_any a' m cap' f W (hG.on hW))
  have HG := Lib.hid hG
  have HA := Lib.hid hA
  unfold kpE kpL
  cases hk : decide (GoodCs n fr to lo hi)
  · rw [hk] at HV
    go_enter Tryd.func47, Tryd.ntmps47
    go_wp2_with fail
    refine calls_after HV.out ?_
    intro x1
    go_wp2
    go_returns
    exact ⟨⟨_, rfl, World.ownsRow_nil _ _ _ _⟩, by (repeat' (first | (with_reducible exact Below.refl _ _) | (with_reducible assumption) | (with_reducible refine Below.alloc ?_ ?_ _) | (with_reducible refine Below.drew ?_) | (with_reducible refine below_drewN ?_ _) | (with_reducible refine Below.setCell ?_ ?_ _) | (with_reducible refine below_after ?_ ?_ _) | (with_reducible refine below_set ?_) | (with_reducible refine After.size_le _ ?_) | (with_reducible refine size_alloc_le ?_) | (with_reducible refine size_set_le ?_) | (with_reducible refine size_drewN_le ?_) | go_size))⟩
  · rw [hk] at HV
    cases hk' : decide (GoodG m f)
    · rw [hk'] at HV'
      go_enter Tryd.func47, Tryd.ntmps47
      go_wp2_with fail
      refine calls_after HV.out ?_
      intro x1
      go_wp2_with fail
      refine calls_after2 (HV'.out _ x1.out) ?_
      intro x2
      go_wp2
      go_returns
      exact ⟨⟨_, rfl, World.ownsRow_nil _ _ _ _⟩, by (repeat' (first | (with_reducible exact Below.refl _ _) | (with_reducible assumption) | (with_reducible refine Below.alloc ?_ ?_ _) | (with_reducible refine Below.drew ?_) | (with_reducible refine below_drewN ?_ _) | (with_reducible refine Below.setCell ?_ ?_ _) | (with_reducible refine below_after ?_ ?_ _) | (with_reducible refine below_set ?_) | (with_reducible refine After.size_le _ ?_) | (with_reducible refine size_alloc_le ?_) | (with_reducible refine size_set_le ?_) | (with_reducible refine size_drewN_le ?_) | go_size))⟩
    · rw [hk'] at HV'
      obtain ⟨hcs, hn200⟩ := of_decide_eq_true hk
      have hGG := of_decide_eq_true hk'
      have hm2 := hGG.1
      have hmI : (m : Int) ≤ 2000 := by omega
      have hnI : (n : Int) ≤ 200 := by omega
      have hEnd : Hid (kpT n fr to lo hi f m n = fl (brk n fr to lo hi f) m) := Lib.hid (kpT_end hcs)
      obtain ⟨i0, hi', hz0, hz1, hz2⟩ := info_parts intInfow
      clear hA hG
      go_enter Tryd.func47, Tryd.ntmps47
      go_wp2_with fail
      refine calls_after HV.out ?_
      intro x1
      go_wp2_with fail
      refine calls_after2 (HV'.out _ x1.out) ?_
      intro x2
      go_wp2
      go_loopw [6, 8, 9, 10, 21] (fun v _ _ _ i wr => ∃ k : Nat, k ≤ n ∧ i = .int .i64 k ∧ ∃ x : After w, wr = x.w ∧ Hid (x.w.ownsRow w.heap.size 3 1 v (kpT n fr to lo hi f m k).length (mxs (kpT n fr to lo hi f m k)))) (fun _ _ _ _ i _ => n - (intOf i).toNat)
      case atStart => exact ⟨0, by omega, rfl, x2, rfl, Lib.hid (by unfold kpT; simp only [laC]; exact World.ownsRow_nil _ _ _ _)⟩
      case round =>
        obtain ⟨k, hkn, rfl, x, rfl, HO⟩ := hrel
        by_cases hlt : k < n
        · have hlti : (k : Int) < (n : Int) := by omega
          obtain ⟨b, off, rfl, hb, c0, c1, c2, c3⟩ := HA.out k hlt
          have hokk := hcs k hlt
          have hlk := csOk_la hcs k hkn
          have hst := Lib.hid (kpT_start (f := f) (m := m) hcs hlt)
          have hfl2 : Hid (kpT n fr to lo hi f m (k + 1) = fl (brk n fr to lo hi f) (min (to k).toNat m)) := Lib.hid rfl
          have HBr : Hid (∀ t : Nat, fr k ≤ (t : Int) → (t : Int) < to k → brk n fr to lo hi f t = (decide (0 ≤ f t) && (decide (f t < lo k) || decide (hi k < f t)))) := Lib.hid fun t h1 h2 => brk_in hcs hlt ⟨h1, h2⟩
          unfold OkC at hokk
          obtain ⟨g1, g2, g3, g4, g5, g6⟩ := hokk
          have HK : Hid (∀ (v : Int) (z : Bool), decide (Btw v (lo k) (hi k)) = z → ∀ W, Calls Tryd.prog 58 #[.int .i64 v, .int .i64 (lo k), .int .i64 (hi k)] W fun e w' => e = .returned (.bool z) ∧ W = w') := Lib.hid fun v z h W => between_b v (lo k) (hi k) W h
          have hbx0 := Lib.hid (BxC.new x.w (fr k) (to k) (lo k) (hi k))
          obtain ⟨t0, ht0⟩ : ∃ t0 : Nat, fr k = t0 := ⟨(fr k).toNat, by omega⟩
          rw [hst.out, ht0] at HO
          simp only [Int.toNat_natCast] at HO
          rw [ht0] at c0 hbx0 HBr g2
          have hsx := x.out.size
          have HO1 := Lib.hid (HO.out.alloc (.cells #[.int .i64 t0, .int .i64 (to k), .int .i64 (lo k), .int .i64 (hi k)] 95))
          have hy0 := x.out.alloc hsx (.cells #[.int .i64 t0, .int .i64 (to k), .int .i64 (lo k), .int .i64 (hi k)] 95)
          clear hst HO ht0 g1 hlk
          generalize to k = f1 at *
          generalize lo k = f2 at *
          generalize hi k = f3 at *
          obtain ⟨X, hX⟩ : ∃ X, X = x.w.heap.size := ⟨_, rfl⟩
          rw [← hX] at hbx0
          go_wp2
          rw [← hX]
          clear hX
          go_loopw [6, 9, 10] (fun v i _ wr => ∃ t : Nat, t0 ≤ t ∧ (t : Int) ≤ f1 ∧ i = .int .i64 t ∧ ∃ y : After w, wr = y.w ∧ Hid (BxC y.w X t0 f1 f2 f3) ∧ Hid (y.w.ownsRow w.heap.size 3 1 v (fl (brk n fr to lo hi f) (min t m)).length (mxs (fl (brk n fr to lo hi f) (min t m))))) (fun _ i _ _ => m - (intOf i).toNat)
          case atStart => exact ⟨t0, Nat.le_refl _, by omega, rfl, ⟨_, hy0⟩, rfl, hbx0, HO1⟩
          case round =>
            obtain ⟨t, ht1, ht2, rfl, y, rfl, hbx, HO⟩ := hrel
            obtain ⟨b0, b1, b2, b3⟩ := hbx.out.cells
            by_cases hmt : (m : Int) < f1
            · by_cases htm : t < m
              · have htf : (t : Int) < f1 := by omega
                have htI : (t : Int) < (m : Int) := by omega
                obtain ⟨gb, goff, rfl, hgb, hgc⟩ := HG.out t htm
                have htmI : (t : Int) < (m : Int) := by omega
                have hbr := HBr.out t (by omega) htf
                have hog := hGG.2 t htm
                unfold OkG Btw at hog
                have hmin : min t m = t := Nat.min_eq_left (by omega)
                rw [hmin] at HO
                have hfs : fl (brk n fr to lo hi f) (min (t + 1) m) = if brk n fr to lo hi f t then fl (brk n fr to lo hi f) t ++ [t] else fl (brk n fr to lo hi f) t := by rw [Nat.min_eq_left (by omega), fl_succ]
                have hle : (fl (brk n fr to lo hi f) t).length ≤ 2000 := Nat.le_trans (fl_len _ _) (by omega)
                have hsy := y.out.size
                rw [hbr] at hfs
                clear hbr hmin HBr hGG
                by_cases hm1 : f t = -1
                · rw [hm1] at hgc hfs
                  have hfl := Lib.hid hfs
                  clear hfs hm1 hog
                  go_wp2
                  go_roundw
                  case rel => exact ⟨t + 1, by omega, by omega, by go_num, y, rfl, hbx, Lib.hid (by rw [hfl.out]; exact HO.out)⟩
                  case measure => simp [intOf]; omega
                · have hb1 : (f t == -1) = false := beq_eq_false_iff_ne.2 hm1
                  have hb2 : (f t != -1) = true := by simp [bne, hb1]
                  cases hz : decide (Btw (f t) f2 f3)
                  · have HKt := Lib.hid (HK.out (f t) false hz)
                    have hfl : Hid (fl (brk n fr to lo hi f) (min (t + 1) m) = fl (brk n fr to lo hi f) t ++ [t]) := Lib.hid (by
                      have hz' := of_decide_eq_false hz
                      unfold Btw at hz'
                      rw [hfs, decide_eq_true (by omega : 0 ≤ f t)]
                      by_cases h5 : f t < f2
                      · rw [decide_eq_true h5]; rfl
                      · rw [decide_eq_false h5, decide_eq_true (by omega : f3 < f t)]; rfl)
                    clear hfs hz hog hm1
                    generalize f t = fx at *
                    obtain ⟨a0, cap0, rfl⟩ := ownsR_shape HO.out
                    have hnx : (Value.slice a0 (fl (brk n fr to lo hi f) t).length cap0).ownBlock ≠ some X := by
                      rcases hbx.out.ne HO.out with h | h
                      · rw [h]; simp
                      · exact h
                    have hbxa := Lib.hid (hbx.out.on ((Below.refl _ y.w).alloc (Nat.le_refl _) (.cells #[.int .i64 t] 3)))
                    go_wp2_with (first | (go_at_call 58; refine (HKt.out _).mono ?_; rintro e w9 ⟨rfl, rfl⟩) | (at_builtin; refine wpList_append_own _ rfl _ _ 24 rfl w.heap.size 3 i0 (.int .i64 0) 1 8 Tryd.underlying24 hi' hz0 hz1 hz2 rfl (by decide) _ _ _ rfl (HO.out.alloc _) ⟨y.w.heap.size, 0, none⟩ 1 1 [.int .i64 t] rfl rfl (World.news_of_block (cs := #[.int .i64 t]) (t := 3) (fr := (0, 0)) (heap_alloc_new y.w _)) (by simp [Value.oneCell']) (by unfold maxLen; omega) (by omega) (by simp; omega) ?_; intro v' w1 hown' hgrow _))
                    go_roundw
                    case rel => exact ⟨t + 1, by omega, by omega, by go_num, ⟨w1, (y.out.alloc hsy _).grown hgrow (by simp; omega) (fun j e => (HO.out.lt j e).1)⟩, rfl, Lib.hid (hbxa.out.grown hgrow hnx), Lib.hid (by rw [hfl.out, mxs_snoc]; simpa using hown')⟩
                    case measure => simp [intOf]; omega
                  · have HKt := Lib.hid (HK.out (f t) true hz)
                    have hfl : Hid (fl (brk n fr to lo hi f) (min (t + 1) m) = fl (brk n fr to lo hi f) t) := Lib.hid (by
                      have hz' := of_decide_eq_true hz
                      unfold Btw at hz'
                      rw [hfs, decide_eq_false (by omega : ¬ f t < f2), decide_eq_false (by omega : ¬ f3 < f t)]
                      simp)
                    clear hfs hz hog hm1
                    generalize f t = fx at *
                    go_wp2_with (go_at_call 58; refine (HKt.out _).mono ?_; rintro e w9 ⟨rfl, rfl⟩)
                    go_roundw
                    case rel => exact ⟨t + 1, by omega, by omega, by go_num, y, rfl, hbx, Lib.hid (by rw [hfl.out]; exact HO.out)⟩
                    case measure => simp [intOf]; omega
              · have htI : ¬ (t : Int) < (m : Int) := by omega
                have heq : min t m = min f1.toNat m := by omega
                clear HBr hGG
                go_wp2
                go_roundw
                case rel => exact ⟨k + 1, by omega, by go_num, y, rfl, Lib.hid (by rw [hfl2.out, ← heq]; exact HO.out)⟩
                case measure => simp [intOf]; omega
            · by_cases htf : (t : Int) < f1
              · have htm : t < m := by omega
                obtain ⟨gb, goff, rfl, hgb, hgc⟩ := HG.out t htm
                have htmI : (t : Int) < (m : Int) := by omega
                have hbr := HBr.out t (by omega) htf
                have hog := hGG.2 t htm
                unfold OkG Btw at hog
                have hmin : min t m = t := Nat.min_eq_left (by omega)
                rw [hmin] at HO
                have hfs : fl (brk n fr to lo hi f) (min (t + 1) m) = if brk n fr to lo hi f t then fl (brk n fr to lo hi f) t ++ [t] else fl (brk n fr to lo hi f) t := by rw [Nat.min_eq_left (by omega), fl_succ]
                have hle : (fl (brk n fr to lo hi f) t).length ≤ 2000 := Nat.le_trans (fl_len _ _) (by omega)
                have hsy := y.out.size
                rw [hbr] at hfs
                clear hbr hmin HBr hGG
                by_cases hm1 : f t = -1
                · rw [hm1] at hgc hfs
                  have hfl := Lib.hid hfs
                  clear hfs hm1 hog
                  go_wp2
                  go_roundw
                  case rel => exact ⟨t + 1, by omega, by omega, by go_num, y, rfl, hbx, Lib.hid (by rw [hfl.out]; exact HO.out)⟩
                  case measure => simp [intOf]; omega
                · have hb1 : (f t == -1) = false := beq_eq_false_iff_ne.2 hm1
                  have hb2 : (f t != -1) = true := by simp [bne, hb1]
                  cases hz : decide (Btw (f t) f2 f3)
                  · have HKt := Lib.hid (HK.out (f t) false hz)
                    have hfl : Hid (fl (brk n fr to lo hi f) (min (t + 1) m) = fl (brk n fr to lo hi f) t ++ [t]) := Lib.hid (by
                      have hz' := of_decide_eq_false hz
                      unfold Btw at hz'
                      rw [hfs, decide_eq_true (by omega : 0 ≤ f t)]
                      by_cases h5 : f t < f2
                      · rw [decide_eq_true h5]; rfl
                      · rw [decide_eq_false h5, decide_eq_true (by omega : f3 < f t)]; rfl)
                    clear hfs hz hog hm1
                    generalize f t = fx at *
                    obtain ⟨a0, cap0, rfl⟩ := ownsR_shape HO.out
                    have hnx : (Value.slice a0 (fl (brk n fr to lo hi f) t).length cap0).ownBlock ≠ some X := by
                      rcases hbx.out.ne HO.out with h | h
                      · rw [h]; simp
                      · exact h
                    have hbxa := Lib.hid (hbx.out.on ((Below.refl _ y.w).alloc (Nat.le_refl _) (.cells #[.int .i64 t] 3)))
                    go_wp2_with (first | (go_at_call 58; refine (HKt.out _).mono ?_; rintro e w9 ⟨rfl, rfl⟩) | (at_builtin; refine wpList_append_own _ rfl _ _ 24 rfl w.heap.size 3 i0 (.int .i64 0) 1 8 Tryd.underlying24 hi' hz0 hz1 hz2 rfl (by decide) _ _ _ rfl (HO.out.alloc _) ⟨y.w.heap.size, 0, none⟩ 1 1 [.int .i64 t] rfl rfl (World.news_of_block (cs := #[.int .i64 t]) (t := 3) (fr := (0, 0)) (heap_alloc_new y.w _)) (by simp [Value.oneCell']) (by unfold maxLen; omega) (by omega) (by simp; omega) ?_; intro v' w1 hown' hgrow _))
                    go_roundw
                    case rel => exact ⟨t + 1, by omega, by omega, by go_num, ⟨w1, (y.out.alloc hsy _).grown hgrow (by simp; omega) (fun j e => (HO.out.lt j e).1)⟩, rfl, Lib.hid (hbxa.out.grown hgrow hnx), Lib.hid (by rw [hfl.out, mxs_snoc]; simpa using hown')⟩
                    case measure => simp [intOf]; omega
                  · have HKt := Lib.hid (HK.out (f t) true hz)
                    have hfl : Hid (fl (brk n fr to lo hi f) (min (t + 1) m) = fl (brk n fr to lo hi f) t) := Lib.hid (by
                      have hz' := of_decide_eq_true hz
                      unfold Btw at hz'
                      rw [hfs, decide_eq_false (by omega : ¬ f t < f2), decide_eq_false (by omega : ¬ f3 < f t)]
                      simp)
                    clear hfs hz hog hm1
                    generalize f t = fx at *
                    go_wp2_with (go_at_call 58; refine (HKt.out _).mono ?_; rintro e w9 ⟨rfl, rfl⟩)
                    go_roundw
                    case rel => exact ⟨t + 1, by omega, by omega, by go_num, y, rfl, hbx, Lib.hid (by rw [hfl.out]; exact HO.out)⟩
                    case measure => simp [intOf]; omega
              · have heq : min t m = min f1.toNat m := by omega
                clear HBr hGG
                go_wp2
                go_roundw
                case rel => exact ⟨k + 1, by omega, by go_num, y, rfl, Lib.hid (by rw [hfl2.out, ← heq]; exact HO.out)⟩
                case measure => simp [intOf]; omega
        · obtain rfl : k = n := by omega
          rw [hEnd.out] at HO
          obtain ⟨a0, cap0, rfl⟩ := ownsR_shape HO.out
          go_wp2
          go_returns
          exact ⟨⟨_, rfl, HO.out⟩, x.out⟩
end Go.Proofs.YtfmoedlnjlkiiaaDoor
