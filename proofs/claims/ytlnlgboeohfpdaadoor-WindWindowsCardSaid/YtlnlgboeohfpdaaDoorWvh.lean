/- Merged forecasts in the reference; casts compares two. -/
import Derived.Test.YtlnlgboeohfpdaaDoorWvg
namespace Go.Proofs.YtlnlgboeohfpdaaDoor
open Go.RowKit
attribute [local go_sem] After.cell After.frozen After.lt After.le After.ne After.ne' After.set_eq After.size_set After.lt_add

set_option maxRecDepth 100000 in
set_option maxHeartbeats 4000000 in
theorem rmerged_say (a : Option Addr) (n cap : Nat) (fr to lo hi : Nat → Int) (w : World) (hA : CAt w a n fr to lo hi) (hn : n ≤ 9223372036854775807) :
    Calls Tryd.prog 45 #[.slice a n cap] w fun e w' => (∃ v, e = .returned (.tuple #[v, .int .i64 (mgE n fr to lo hi)]) ∧ QRow w' w.heap.size v (mgA n fr to lo hi)) ∧ Below w.heap.size w w' := by
  have HV := Lib.hid (rvalidCasts_any a n cap fr to lo hi w hA hn)
  have HA := Lib.hid hA
  unfold mgE mgA QRow
  cases hk : decide (GoodCs n fr to lo hi)
  · rw [hk] at HV
    go_enter Tryd.func45, Tryd.ntmps45
    go_wp2_with fail
    refine calls_after HV.out ?_
    intro x1
    go_wp2
    go_returns
    exact ⟨⟨_, rfl, World.ownsRow_nil _ _ _ _⟩, by (repeat' (first | (with_reducible exact Below.refl _ _) | (with_reducible assumption) | (with_reducible refine Below.alloc ?_ ?_ _) | (with_reducible refine Below.drew ?_) | (with_reducible refine below_drewN ?_ _) | (with_reducible refine Below.setCell ?_ ?_ _) | (with_reducible refine below_after ?_ ?_ _) | (with_reducible refine below_set ?_) | (with_reducible refine After.size_le _ ?_) | (with_reducible refine size_alloc_le ?_) | (with_reducible refine size_set_le ?_) | (with_reducible refine size_drewN_le ?_) | go_size))⟩
  · rw [hk] at HV
    obtain ⟨hcs, hn200⟩ := of_decide_eq_true hk
    have hnI : (n : Int) ≤ 200 := by omega
    obtain ⟨i0, hi', hz0, hz1, hz2⟩ := info_parts castInfo
    clear hA hcs
    go_enter Tryd.func45, Tryd.ntmps45
    go_wp2_with fail
    refine calls_after HV.out ?_
    intro x1
    go_wp2
    go_loopw [4, 5] (fun v i wr => ∃ k : Nat, k ≤ n ∧ i = .int .i64 k ∧ ∃ x : After w, wr = x.w ∧ Hid (x.w.ownsRow w.heap.size 95 4 v (mgL fr to lo hi k).length (qcv (mgL fr to lo hi k)))) (fun _ i _ => n - (intOf i).toNat)
    case atStart => exact ⟨0, by omega, rfl, x1, rfl, Lib.hid (World.ownsRow_nil _ _ _ _)⟩
    case round =>
      obtain ⟨k, hkn, rfl, x, rfl, HO⟩ := hrel
      by_cases hlt : k < n
      · obtain ⟨b, off, rfl, hb, c0, c1, c2, c3⟩ := HA.out k hlt
        have hkI : (k : Int) < (n : Int) := by omega
        have hle := mgL_len (fr := fr) (to := to) (lo := lo) (hi := hi) k
        have hfs : mgL fr to lo hi (k + 1) = addM (mgL fr to lo hi k) (fr k, to k, lo k, hi k) := rfl
        have hbx : b < x.w.heap.size := Nat.lt_of_lt_of_le hb x.out.size
        have d0 := (x.out.cell (p := ⟨b, off + k * 4, none⟩) hb).trans c0
        have d1 := (x.out.cell (p := ⟨b, off + k * 4 + 1, none⟩) hb).trans c1
        have d2 := (x.out.cell (p := ⟨b, off + k * 4 + 2, none⟩) hb).trans c2
        have d3 := (x.out.cell (p := ⟨b, off + k * 4 + 3, none⟩) hb).trans c3
        generalize fr k = x0 at *
        generalize to k = x1' at *
        generalize lo k = x2 at *
        generalize hi k = x3 at *
        have hsz := x.out.size
        generalize mgL fr to lo hi k = L at *
        rcases nil_or_snoc L with rfl | ⟨L', ⟨q0, q1, q2, q3⟩, rfl⟩
        · rw [addM_nil] at hfs
          have hfl := Lib.hid hfs
          obtain ⟨a0, cap0, rfl⟩ := ownsR_shape HO.out
          clear hfs
          go_wp2_with fail
          refine wp_region_after (by kernel_rfl) (by kernel_rfl) ?_; (repeat (first | go_big_quiet_step ((fail)) | (refine wpQuiet_step (fun K hK => ?_); go_simp; first | (refine hK _ ?_; clear hK K) | (apply Exists.intro; refine ⟨fun x => ?_, hK _ ?_⟩; (fail); clear hK K)))); refine wpQuiet_nil ?_
          intro y
          obtain ⟨u, hu⟩ : ∃ u : After w, y.w = u.w := ⟨⟨y.w, x.out.trans (y.out.mono x.out.size)⟩, rfl⟩
          have HO2 : Hid (u.w.ownsRow _ _ _ _ _ _) := Lib.hid (by rw [← hu]; exact ownsR_stay HO.out y.out)
          have d0' := (u.out.cell (p := ⟨b, off + k * 4, none⟩) hb).trans c0
          have d1' := (u.out.cell (p := ⟨b, off + k * 4 + 1, none⟩) hb).trans c1
          have d2' := (u.out.cell (p := ⟨b, off + k * 4 + 2, none⟩) hb).trans c2
          have d3' := (u.out.cell (p := ⟨b, off + k * 4 + 3, none⟩) hb).trans c3
          have hsu := u.out.size
          clear HO d0 d1 d2 d3
          go_wp2_with (at_builtin; refine wpList_append_own _ rfl _ _ 56 rfl w.heap.size 95 i0 (.agg #[.int .i64 0, .int .i64 0, .int .i64 0, .int .i64 0]) 4 32 Tryd.underlying56 hi' hz0 hz1 hz2 rfl (by decide) _ _ _ rfl (HO2.out.alloc _) ⟨u.w.heap.size, 0, none⟩ 1 1 [.int .i64 x0, .int .i64 x1', .int .i64 x2, .int .i64 x3] rfl rfl (World.news_of_block (cs := #[.int .i64 x0, .int .i64 x1', .int .i64 x2, .int .i64 x3]) (t := 95) (fr := (0, 0)) (heap_alloc_new u.w _)) (by simp [Value.oneCell']) (by unfold maxLen; omega) (by omega) (by simp; omega) ?_; intro v' w1 hown' hgrow _)
          go_roundw
          case rel => exact ⟨k + 1, by omega, by go_num, ⟨w1, (u.out.alloc hsu _).grown hgrow (by simp; omega) (fun j e => (HO2.out.lt j e).1)⟩, rfl, Lib.hid (by rw [hfl.out]; first | (simpa [qcv] using hown') | (rw [qcv_snoc]; simpa using hown'))⟩
          case measure => simp [intOf]; omega
        · have hlen : (L' ++ [(q0, q1, q2, q3)]).length = L'.length + 1 := by simp
          rw [hlen] at HO hle
          obtain ⟨g, cap', rfl⟩ := Go.Joins.ownsRow_form HO.out (by omega)
          obtain ⟨r0, r1, r2, r3⟩ := qcv_at L' (q0, q1, q2, q3)
          have f0 := HO.out.cellAt (L'.length * 4) (by omega)
          have f1 := HO.out.cellAt (L'.length * 4 + 1) (by omega)
          have f2 := HO.out.cellAt (L'.length * 4 + 2) (by omega)
          have f3 := HO.out.cellAt (L'.length * 4 + 3) (by omega)
          rw [r0] at f0
          rw [r1] at f1
          rw [r2] at f2
          rw [r3] at f3
          dsimp only at f0 f1 f2 f3
          have hg := (HO.out.lt g rfl).2
          have hfz := HO.out.frozenAt (L'.length * 4 + 1)
          rw [addM_last] at hfs
          clear r0 r1 r2 r3
          by_cases h1 : q1 = x0
          case neg =>
            rw [if_neg (fun h => h1 h.1)] at hfs
            have hfl := Lib.hid hfs
            have b1 : (q1 == x0) = false := beq_eq_false_iff_ne.2 h1
            clear h1 hfs
            have hkk : ((L'.length + 1 : Nat) : Int) - 1 = (L'.length : Int) := by omega
            have hk0 : decide ((0 : Int) ≤ (L'.length : Int)) = true := decide_eq_true (by omega)
            go_wp2_with fail
            refine wp_region_after (by kernel_rfl) (by kernel_rfl) ?_; (repeat (first | go_big_quiet_step ((fail)) | (refine wpQuiet_step (fun K hK => ?_); go_simp; first | (refine hK _ ?_; clear hK K) | (apply Exists.intro; refine ⟨fun x => ?_, hK _ ?_⟩; (fail); clear hK K)))); refine wpQuiet_nil ?_
            intro y
            obtain ⟨u, hu⟩ : ∃ u : After w, y.w = u.w := ⟨⟨y.w, x.out.trans (y.out.mono x.out.size)⟩, rfl⟩
            have HO2 : Hid (u.w.ownsRow _ _ _ _ _ _) := Lib.hid (by rw [← hu]; exact ownsR_stay HO.out y.out)
            have d0' := (u.out.cell (p := ⟨b, off + k * 4, none⟩) hb).trans c0
            have d1' := (u.out.cell (p := ⟨b, off + k * 4 + 1, none⟩) hb).trans c1
            have d2' := (u.out.cell (p := ⟨b, off + k * 4 + 2, none⟩) hb).trans c2
            have d3' := (u.out.cell (p := ⟨b, off + k * 4 + 3, none⟩) hb).trans c3
            have hsu := u.out.size
            clear HO d0 d1 d2 d3 f0 f1 f2 f3 hfz
            go_wp2_with (at_builtin; refine wpList_append_own _ rfl _ _ 56 rfl w.heap.size 95 i0 (.agg #[.int .i64 0, .int .i64 0, .int .i64 0, .int .i64 0]) 4 32 Tryd.underlying56 hi' hz0 hz1 hz2 rfl (by decide) _ _ _ rfl (HO2.out.alloc _) ⟨u.w.heap.size, 0, none⟩ 1 1 [.int .i64 x0, .int .i64 x1', .int .i64 x2, .int .i64 x3] rfl rfl (World.news_of_block (cs := #[.int .i64 x0, .int .i64 x1', .int .i64 x2, .int .i64 x3]) (t := 95) (fr := (0, 0)) (heap_alloc_new u.w _)) (by simp [Value.oneCell']) (by unfold maxLen; omega) (by omega) (by simp; omega) ?_; intro v' w1 hown' hgrow _)
            go_roundw
            case rel => exact ⟨k + 1, by omega, by go_num, ⟨w1, (u.out.alloc hsu _).grown hgrow (by simp; omega) (fun j e => (HO2.out.lt j e).1)⟩, rfl, Lib.hid (by rw [hfl.out]; first | (simpa [qcv] using hown') | (rw [qcv_snoc]; simpa using hown'))⟩
            case measure => simp [intOf]; omega
          by_cases h2 : q2 = x2
          case neg =>
            rw [if_neg (fun h => h2 h.2.1)] at hfs
            have hfl := Lib.hid hfs
            have b1 : (q1 == x0) = true := beq_iff_eq.2 h1
            have b2 : (q2 == x2) = false := beq_eq_false_iff_ne.2 h2
            clear h1 h2 hfs
            have hkk : ((L'.length + 1 : Nat) : Int) - 1 = (L'.length : Int) := by omega
            have hk0 : decide ((0 : Int) ≤ (L'.length : Int)) = true := decide_eq_true (by omega)
            go_wp2_with fail
            refine wp_region_after (by kernel_rfl) (by kernel_rfl) ?_; (repeat (first | go_big_quiet_step ((fail)) | (refine wpQuiet_step (fun K hK => ?_); go_simp; first | (refine hK _ ?_; clear hK K) | (apply Exists.intro; refine ⟨fun x => ?_, hK _ ?_⟩; (fail); clear hK K)))); refine wpQuiet_nil ?_
            intro y
            obtain ⟨u, hu⟩ : ∃ u : After w, y.w = u.w := ⟨⟨y.w, x.out.trans (y.out.mono x.out.size)⟩, rfl⟩
            have HO2 : Hid (u.w.ownsRow _ _ _ _ _ _) := Lib.hid (by rw [← hu]; exact ownsR_stay HO.out y.out)
            have d0' := (u.out.cell (p := ⟨b, off + k * 4, none⟩) hb).trans c0
            have d1' := (u.out.cell (p := ⟨b, off + k * 4 + 1, none⟩) hb).trans c1
            have d2' := (u.out.cell (p := ⟨b, off + k * 4 + 2, none⟩) hb).trans c2
            have d3' := (u.out.cell (p := ⟨b, off + k * 4 + 3, none⟩) hb).trans c3
            have hsu := u.out.size
            clear HO d0 d1 d2 d3 f0 f1 f2 f3 hfz
            go_wp2_with (at_builtin; refine wpList_append_own _ rfl _ _ 56 rfl w.heap.size 95 i0 (.agg #[.int .i64 0, .int .i64 0, .int .i64 0, .int .i64 0]) 4 32 Tryd.underlying56 hi' hz0 hz1 hz2 rfl (by decide) _ _ _ rfl (HO2.out.alloc _) ⟨u.w.heap.size, 0, none⟩ 1 1 [.int .i64 x0, .int .i64 x1', .int .i64 x2, .int .i64 x3] rfl rfl (World.news_of_block (cs := #[.int .i64 x0, .int .i64 x1', .int .i64 x2, .int .i64 x3]) (t := 95) (fr := (0, 0)) (heap_alloc_new u.w _)) (by simp [Value.oneCell']) (by unfold maxLen; omega) (by omega) (by simp; omega) ?_; intro v' w1 hown' hgrow _)
            go_roundw
            case rel => exact ⟨k + 1, by omega, by go_num, ⟨w1, (u.out.alloc hsu _).grown hgrow (by simp; omega) (fun j e => (HO2.out.lt j e).1)⟩, rfl, Lib.hid (by rw [hfl.out]; first | (simpa [qcv] using hown') | (rw [qcv_snoc]; simpa using hown'))⟩
            case measure => simp [intOf]; omega
          by_cases h3 : q3 = x3
          case neg =>
            rw [if_neg (fun h => h3 h.2.2)] at hfs
            have hfl := Lib.hid hfs
            have b1 : (q1 == x0) = true := beq_iff_eq.2 h1
            have b2 : (q2 == x2) = true := beq_iff_eq.2 h2
            have b3 : (q3 == x3) = false := beq_eq_false_iff_ne.2 h3
            clear h1 h2 h3 hfs
            have hkk : ((L'.length + 1 : Nat) : Int) - 1 = (L'.length : Int) := by omega
            have hk0 : decide ((0 : Int) ≤ (L'.length : Int)) = true := decide_eq_true (by omega)
            go_wp2_with fail
            refine wp_region_after (by kernel_rfl) (by kernel_rfl) ?_; (repeat (first | go_big_quiet_step ((fail)) | (refine wpQuiet_step (fun K hK => ?_); go_simp; first | (refine hK _ ?_; clear hK K) | (apply Exists.intro; refine ⟨fun x => ?_, hK _ ?_⟩; (fail); clear hK K)))); refine wpQuiet_nil ?_
            intro y
            obtain ⟨u, hu⟩ : ∃ u : After w, y.w = u.w := ⟨⟨y.w, x.out.trans (y.out.mono x.out.size)⟩, rfl⟩
            have HO2 : Hid (u.w.ownsRow _ _ _ _ _ _) := Lib.hid (by rw [← hu]; exact ownsR_stay HO.out y.out)
            have d0' := (u.out.cell (p := ⟨b, off + k * 4, none⟩) hb).trans c0
            have d1' := (u.out.cell (p := ⟨b, off + k * 4 + 1, none⟩) hb).trans c1
            have d2' := (u.out.cell (p := ⟨b, off + k * 4 + 2, none⟩) hb).trans c2
            have d3' := (u.out.cell (p := ⟨b, off + k * 4 + 3, none⟩) hb).trans c3
            have hsu := u.out.size
            clear HO d0 d1 d2 d3 f0 f1 f2 f3 hfz
            go_wp2_with (at_builtin; refine wpList_append_own _ rfl _ _ 56 rfl w.heap.size 95 i0 (.agg #[.int .i64 0, .int .i64 0, .int .i64 0, .int .i64 0]) 4 32 Tryd.underlying56 hi' hz0 hz1 hz2 rfl (by decide) _ _ _ rfl (HO2.out.alloc _) ⟨u.w.heap.size, 0, none⟩ 1 1 [.int .i64 x0, .int .i64 x1', .int .i64 x2, .int .i64 x3] rfl rfl (World.news_of_block (cs := #[.int .i64 x0, .int .i64 x1', .int .i64 x2, .int .i64 x3]) (t := 95) (fr := (0, 0)) (heap_alloc_new u.w _)) (by simp [Value.oneCell']) (by unfold maxLen; omega) (by omega) (by simp; omega) ?_; intro v' w1 hown' hgrow _)
            go_roundw
            case rel => exact ⟨k + 1, by omega, by go_num, ⟨w1, (u.out.alloc hsu _).grown hgrow (by simp; omega) (fun j e => (HO2.out.lt j e).1)⟩, rfl, Lib.hid (by rw [hfl.out]; first | (simpa [qcv] using hown') | (rw [qcv_snoc]; simpa using hown'))⟩
            case measure => simp [intOf]; omega
          rw [if_pos (show OnQ (q0, q1, q2, q3) (x0, x1', x2, x3) from ⟨h1, h2, h3⟩)] at hfs
          have hfl := Lib.hid hfs
          have b1 : (q1 == x0) = true := beq_iff_eq.2 h1
          have b2 : (q2 == x2) = true := beq_iff_eq.2 h2
          have b3 : (q3 == x3) = true := beq_iff_eq.2 h3
          clear h1 h2 h3 hfs
          have hkk : ((L'.length + 1 : Nat) : Int) - 1 = (L'.length : Int) := by omega
          have hk0 : decide ((0 : Int) ≤ (L'.length : Int)) = true := decide_eq_true (by omega)
          go_wp2_with fail
          refine wp_region_after (by kernel_rfl) (by kernel_rfl) ?_; (repeat (first | go_big_quiet_step ((fail)) | (refine wpQuiet_step (fun K hK => ?_); go_simp; first | (refine hK _ ?_; clear hK K) | (apply Exists.intro; refine ⟨fun x => ?_, hK _ ?_⟩; (fail); clear hK K)))); refine wpQuiet_nil ?_
          intro y
          obtain ⟨u, hu⟩ : ∃ u : After w, y.w = u.w := ⟨⟨y.w, x.out.trans (y.out.mono x.out.size)⟩, rfl⟩
          have HO2 : Hid (u.w.ownsRow _ _ _ _ _ _) := Lib.hid (by rw [← hu]; exact ownsR_stay HO.out y.out)
          have d0' := (u.out.cell (p := ⟨b, off + k * 4, none⟩) hb).trans c0
          have d1' := (u.out.cell (p := ⟨b, off + k * 4 + 1, none⟩) hb).trans c1
          have d2' := (u.out.cell (p := ⟨b, off + k * 4 + 2, none⟩) hb).trans c2
          have d3' := (u.out.cell (p := ⟨b, off + k * 4 + 3, none⟩) hb).trans c3
          have hsu := u.out.size
          clear HO d0 d1 d2 d3 f0 f1 f2 f3 hfz
          have f1' := HO2.out.cellAt (L'.length * 4 + 1) (by omega)
          rw [(qcv_at L' (q0, q1, q2, q3)).2.1] at f1'
          have fz' := HO2.out.frozenAt (L'.length * 4 + 1)
          have hst := Lib.hid (HO2.out.stored (L'.length * 4 + 1) (.int .i64 x1')).1
          rw [qcv_last] at hst
          have hgw := (HO2.out.lt g rfl).1
          go_wp2
          go_roundw
          case rel => exact ⟨k + 1, by omega, by go_num, ⟨_, u.out.setCell (by dsimp only; omega) _⟩, rfl, Lib.hid (by rw [hfl.out]; simpa using hst.out)⟩
          case measure => simp [intOf]; omega
      · obtain rfl : k = n := by omega
        obtain ⟨a0, cap0, rfl⟩ := ownsR_shape HO.out
        go_wp2
        go_returns
        exact ⟨⟨_, rfl, HO.out⟩, x.out⟩
set_option maxRecDepth 100000 in
set_option maxHeartbeats 1000000 in
theorem casts_any (a a' : Option Addr) (n c c' : Nat) (fr to lo hi : Nat → Int) (w : World) (h : CAt w a n fr to lo hi) (h' : CAt w a' n fr to lo hi) (hl : n ≤ 1000000) :
    Calls Tryd.prog 46 #[.slice a n c, .slice a' n c'] w fun e w' => e = .returned (.bool true) ∧ Below w.heap.size w w' := by
  have H1 := Lib.hid h
  have H2 := Lib.hid h'
  have hlI : (n : Int) ≤ 1000000 := by omega
  clear h h'
  go_enter Tryd.func46, Tryd.ntmps46
  go_wp2
  go_loopw [5] (fun i wr => ∃ k : Nat, k ≤ n ∧ i = .int .i64 k ∧ ∃ x : After w, wr = x.w) (fun i _ => n - (intOf i).toNat)
  case atStart => exact ⟨0, by omega, rfl, ⟨w, Below.refl _ _⟩, rfl⟩
  case round =>
    obtain ⟨k, hk, rfl, x, rfl⟩ := hrel
    by_cases hlt : k < n
    · have hlti : (k : Int) < (n : Int) := by omega
      obtain ⟨b, off, rfl, hb, c0, c1, c2, c3⟩ := H1.out k hlt
      obtain ⟨b', off', rfl, hb', d0, d1, d2, d3⟩ := H2.out k hlt
      generalize fr k = p0 at *
      generalize to k = p1 at *
      generalize lo k = p2 at *
      generalize hi k = p3 at *
      go_wp2
      refine wp_region_after (by kernel_rfl) (by kernel_rfl) ?_; (repeat (first | go_big_quiet_step ((fail)) | (refine wpQuiet_step (fun K hK => ?_); go_simp; first | (refine hK _ ?_; clear hK K) | (apply Exists.intro; refine ⟨fun x => ?_, hK _ ?_⟩; (fail); clear hK K)))); refine wpQuiet_nil ?_
      intro y
      go_wp2
      go_roundw
      case rel => exact ⟨k + 1, by omega, by go_num, ⟨_, x.out.trans (y.out.mono x.out.size)⟩, rfl⟩
      case measure => simp [intOf]; omega
    · obtain rfl : k = n := by omega
      go_wp2
      go_ret
      exact ⟨rfl, by (repeat' (first | (with_reducible exact Below.refl _ _) | (with_reducible assumption) | (with_reducible refine Below.alloc ?_ ?_ _) | (with_reducible refine Below.drew ?_) | (with_reducible refine below_drewN ?_ _) | (with_reducible refine Below.setCell ?_ ?_ _) | (with_reducible refine below_after ?_ ?_ _) | (with_reducible refine below_set ?_) | (with_reducible refine After.size_le _ ?_) | (with_reducible refine size_alloc_le ?_) | (with_reducible refine size_set_le ?_) | (with_reducible refine size_drewN_le ?_) | go_size))⟩
end Go.Proofs.YtlnlgboeohfpdaaDoor
