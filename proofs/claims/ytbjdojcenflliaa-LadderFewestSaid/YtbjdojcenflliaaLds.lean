/- Right in the reference. -/
import Derived.Test.YtbjdojcenflliaaLdr
namespace Go.Proofs.Ytbjdojcenflliaa
open Go.RowKit Go.Shelf
attribute [local go_sem] Oper.semAt_some
attribute [local go_sem] After.cell After.frozen After.lt After.le After.ne After.ne' After.set_eq After.size_set After.lt_add

set_option maxRecDepth 100000 in
set_option maxHeartbeats 2000000 in
theorem rRight_any (fi ga tp le lp sg : Int) (a : Option Addr) (n cap : Nat) (hg : Nat → Int) (sd : Nat → Bool) (da : Option Addr) (m dc : Nat) (d : Nat → Int) (w : World) (hA : JtAt w a n hg sd) (hD : DAt w da m d) (hn : n ≤ 9223372036854775807) (hm : m ≤ 1000000) :
    Calls Try.prog 20 #[.agg #[.int .i64 fi, .int .i64 ga, .int .i64 tp, .int .i64 le, .int .i64 lp, .int .i64 sg], .slice a n cap, .slice da m dc] w fun e w' => e = .returned (.bool (decide ((VcP fi ga tp le lp sg ∧ VjP n hg) ∧ RtP hg sd n fi ga (tp - ga) m d))) ∧ Below w.heap.size w w' := by
  have HV := Lib.hid (fun W (hW : Below w.heap.size w W) => rvalidJoints_any a n cap hg sd W (hA.on hW) hn)
  have HC := Lib.hid (fun W => rvalidClimb_any fi ga tp le lp sg W)
  have HA := Lib.hid hA
  have HD := Lib.hid hD
  have hmI : (m : Int) ≤ 1000000 := by omega
  by_cases hv : VcP fi ga tp le lp sg ∧ VjP n hg
  · rw [decide_eq_true hv.1] at HC
    rw [decide_eq_true hv.2] at HV
    have hga : 1 ≤ ga ∧ ga ≤ 200000 := hv.1.2.1
    have htp : 1 ≤ tp ∧ tp ≤ 200000 := hv.1.2.2.1
    obtain ⟨hga0, hga1⟩ := hga
    obtain ⟨htp0, htp1⟩ := htp
    have hnI : (n : Int) ≤ 200 := by have := hv.2.1; omega
    have HP := Lib.hid (fun k hk => vjT_pos hv.2.2 (i := k) hk)
    have HX : Hid (decide ((VcP fi ga tp le lp sg ∧ VjP n hg) ∧ RtP hg sd n fi ga (tp - ga) m d) = decide (RtP hg sd n fi ga (tp - ga) m d)) := Lib.hid (by simp [hv])
    clear hA hD hv
    go_enter Try.func20, Try.ntmps20
    go_wp2_with fail
    refine calls_after (HV.out _ (by (repeat' (first | (with_reducible exact Below.refl _ _) | (with_reducible assumption) | (with_reducible refine Below.alloc ?_ ?_ _) | (with_reducible refine Below.drew ?_) | (with_reducible refine below_drewN ?_ _) | (with_reducible refine Below.setCell ?_ ?_ _) | (with_reducible refine below_after ?_ ?_ _) | (with_reducible refine below_set ?_) | (with_reducible refine After.size_le _ ?_) | (with_reducible refine size_alloc_le ?_) | (with_reducible refine size_set_le ?_) | (with_reducible refine size_drewN_le ?_) | go_size)))) ?_
    intro x1
    go_wp2_with fail
    refine calls_after (HC.out _) ?_
    intro x2
    have HB2 : Hid (Below w.heap.size w x2.w) := Lib.hid (by (repeat' (first | (with_reducible exact Below.refl _ _) | (with_reducible assumption) | (with_reducible refine Below.alloc ?_ ?_ _) | (with_reducible refine Below.drew ?_) | (with_reducible refine below_drewN ?_ _) | (with_reducible refine Below.setCell ?_ ?_ _) | (with_reducible refine below_after ?_ ?_ _) | (with_reducible refine below_set ?_) | (with_reducible refine After.size_le _ ?_) | (with_reducible refine size_alloc_le ?_) | (with_reducible refine size_set_le ?_) | (with_reducible refine size_drewN_le ?_) | go_size)))
    by_cases hm0 : m = 0
    · subst hm0
      have HZ : Hid (decide (RtP hg sd n fi ga (tp - ga) 0 d) = false) := Lib.hid (decide_eq_false fun h => absurd h.2.1 (by omega))
      go_wp2
      go_returns
      exact ⟨by rw [HX.out, HZ.out]; rfl, HB2.out⟩
    · have hm0I : ((m : Int) == 0) = false := by rw [beq_eq_false_iff_ne]; omega
      have hx1 := x1.out.size
      simp only [World.size_alloc] at hx1
      have kb0 : x2.w.cell? ⟨w.heap.size, 0, none⟩ = some (.int .i64 fi) := (x2.out.cell (p := ⟨w.heap.size, 0, none⟩) (by dsimp only; omega)).trans ((x1.out.cell (p := ⟨w.heap.size, 0, none⟩) (by simp)).trans (by simp [go_sem]))
      have kb1 : x2.w.cell? ⟨w.heap.size, 1, none⟩ = some (.int .i64 ga) := (x2.out.cell (p := ⟨w.heap.size, 1, none⟩) (by dsimp only; omega)).trans ((x1.out.cell (p := ⟨w.heap.size, 1, none⟩) (by simp)).trans (by simp [go_sem]))
      have kb2 : x2.w.cell? ⟨w.heap.size, 2, none⟩ = some (.int .i64 tp) := (x2.out.cell (p := ⟨w.heap.size, 2, none⟩) (by dsimp only; omega)).trans ((x1.out.cell (p := ⟨w.heap.size, 2, none⟩) (by simp)).trans (by simp [go_sem]))
      have hx2 : w.heap.size < x2.w.heap.size := by have := x2.out.size; omega
      have HA2 := Lib.hid (HA.out.on HB2.out)
      have HD2 := Lib.hid (HD.out.on HB2.out)
      go_wp2
      go_loopw [7] (fun i W => ∃ k : Nat, k ≤ m ∧ i = .int .i64 k ∧ Hid (∀ j, j < k → StD hg sd n fi ga d j) ∧ ∃ x : After x2.w, W = x.w) (fun i _ => m - (intOf i).toNat)
      case atStart => exact ⟨0, Nat.zero_le _, rfl, Lib.hid (fun i hi => by omega), ⟨x2.w, Below.refl _ _⟩, rfl⟩
      case round =>
        obtain ⟨k, hk, rfl, HT, x, rfl⟩ := hrel
        have hxs := x.out.size
        have hx3 : w.heap.size < x.w.heap.size := by omega
        by_cases hlt : k < m
        · have hlti : (k : Int) < (m : Int) := by omega
          obtain ⟨db, do', rfl, hdb, dk⟩ := HD2.out k hlt
          have hdb3 : db < x.w.heap.size := by omega
          have HF : Hid (¬ StD hg sd n fi ga d k → decide (RtP hg sd n fi ga (tp - ga) m d) = false) := Lib.hid (fun h => decide_eq_false fun q => h (q.1 k hlt))
          have HG : Hid (StD hg sd n fi ga d k → ∀ j, j < k + 1 → StD hg sd n fi ga d j) := Lib.hid (fun h j hj => by
            by_cases e : j = k
            · subst e; exact h
            · exact HT.out j (by omega))
          by_cases h0 : k = 0
          · have HS : Hid (StD hg sd n fi ga d k ↔ Bt3 (d k) 0 ((n : Int) - 1) ∧ sd (d k).toNat = true ∧ hg (d k).toNat ≤ fi) := Lib.hid (by unfold StD frD htD; rw [if_pos h0, if_pos h0])
            have hk0 : ¬ (0 : Int) < (k : Int) := by omega
            have hkz : ((k : Int) == 0) = true := by rw [beq_iff_eq]; omega
            have hkN : decide (0 < k) = false := decide_eq_false (by omega)
            clear h0
            generalize d k = dv at *
            cases hq : decide (Bt3 dv 0 ((n : Int) - 1))
            · have HV := Lib.hid (HF.out (fun h => absurd (HS.out.1 h).1 (of_decide_eq_false hq)))
              have HB := Lib.hid (fun W => (within3_any dv 0 ((n : Int) - 1) W).mono (fun e w' h => (⟨hq ▸ h.1, h.2 ▸ Below.refl _ _⟩ : e = .returned (.bool false) ∧ Below W.heap.size W w')))
              clear hq HG HF HT HS
              go_wp2
              refine wp_region_after (by kernel_rfl) (by kernel_rfl) ?_; (repeat (first | go_big_quiet_step ((go_at_call 48; with_reducible exact quiet_after (HB.out _))) | (refine wpQuiet_step (fun K hK => ?_); go_simp; first | (refine hK _ ?_; clear hK K) | (apply Exists.intro; refine ⟨fun x => ?_, hK _ ?_⟩; (go_at_call 48; with_reducible exact quiet_after (HB.out _)); clear hK K)))); refine wpQuiet_nil ?_
              intro y
              go_wp2
              go_returns
              exact ⟨by rw [HX.out, HV.out]; rfl, by (repeat' (first | (with_reducible exact Below.refl _ _) | (with_reducible assumption) | (with_reducible refine Below.alloc ?_ ?_ _) | (with_reducible refine Below.drew ?_) | (with_reducible refine below_drewN ?_ _) | (with_reducible refine Below.setCell ?_ ?_ _) | (with_reducible refine below_after ?_ ?_ _) | (with_reducible refine below_set ?_) | (with_reducible refine After.size_le _ ?_) | (with_reducible refine size_alloc_le ?_) | (with_reducible refine size_set_le ?_) | (with_reducible refine size_drewN_le ?_) | go_size))⟩
            · have HB := Lib.hid (fun W => (within3_any dv 0 ((n : Int) - 1) W).mono (fun e w' h => (⟨hq ▸ h.1, h.2 ▸ Below.refl _ _⟩ : e = .returned (.bool true) ∧ Below W.heap.size W w')))
              have hbt := of_decide_eq_true hq
              obtain ⟨q, rfl⟩ : ∃ q : Nat, dv = (q : Nat) := ⟨dv.toNat, by unfold Bt3 at hbt; omega⟩
              have hqn : q < n := by unfold Bt3 at hbt; omega
              have hqI : (q : Int) < (n : Int) := by omega
              obtain ⟨jb, jo, rfl, hjb, c0, c1⟩ := HA2.out q hqn
              have hjb3 : jb < x.w.heap.size := by omega
              rw [show ((q : Int)).toNat = q from rfl] at HS
              have hhq := HP.out q hqn
              obtain ⟨hhq0, hhq1⟩ := hhq
              cases hu : sd q
              · have HV := Lib.hid (HF.out (fun h => by have := (HS.out.1 h).2.1; rw [hu] at this; cases this))
                rw [hu] at c1
                clear hu hq hbt HG HF HT HS
                go_wp2
                refine wp_region_after (by kernel_rfl) (by kernel_rfl) ?_; (repeat (first | go_big_quiet_step ((go_at_call 48; with_reducible exact quiet_after (HB.out _))) | (refine wpQuiet_step (fun K hK => ?_); go_simp; first | (refine hK _ ?_; clear hK K) | (apply Exists.intro; refine ⟨fun x => ?_, hK _ ?_⟩; (go_at_call 48; with_reducible exact quiet_after (HB.out _)); clear hK K)))); refine wpQuiet_nil ?_
                intro y
                go_wp2
                go_returns
                exact ⟨by rw [HX.out, HV.out]; rfl, by (repeat' (first | (with_reducible exact Below.refl _ _) | (with_reducible assumption) | (with_reducible refine Below.alloc ?_ ?_ _) | (with_reducible refine Below.drew ?_) | (with_reducible refine below_drewN ?_ _) | (with_reducible refine Below.setCell ?_ ?_ _) | (with_reducible refine below_after ?_ ?_ _) | (with_reducible refine below_set ?_) | (with_reducible refine After.size_le _ ?_) | (with_reducible refine size_alloc_le ?_) | (with_reducible refine size_set_le ?_) | (with_reducible refine size_drewN_le ?_) | go_size))⟩
              · by_cases hle : hg q ≤ fi
                · have hle2 : decide (fi < hg q) = false := decide_eq_false (by omega)
                  have HV := Lib.hid (HG.out (HS.out.2 ⟨hbt, hu, hle⟩))
                  rw [hu] at c1
                  clear hu hq hbt HG HF HT HS
                  go_wp2
                  refine wp_region_after (by kernel_rfl) (by kernel_rfl) ?_; (repeat (first | go_big_quiet_step ((go_at_call 48; with_reducible exact quiet_after (HB.out _))) | (refine wpQuiet_step (fun K hK => ?_); go_simp; first | (refine hK _ ?_; clear hK K) | (apply Exists.intro; refine ⟨fun x => ?_, hK _ ?_⟩; (go_at_call 48; with_reducible exact quiet_after (HB.out _)); clear hK K)))); refine wpQuiet_nil ?_
                  intro y
                  go_wp2
                  refine wp_region_after (by kernel_rfl) (by kernel_rfl) ?_; (repeat (first | go_big_quiet_step ((fail)) | (refine wpQuiet_step (fun K hK => ?_); go_simp; first | (refine hK _ ?_; clear hK K) | (apply Exists.intro; refine ⟨fun x => ?_, hK _ ?_⟩; (fail); clear hK K)))); refine wpQuiet_nil ?_
                  intro y2
                  have HYD := Lib.hid ((x.out.trans (y.out.mono x.out.size)).trans (y2.out.mono (x.out.trans (y.out.mono x.out.size)).size))
                  go_wp2
                  go_roundw
                  case rel => exact ⟨k + 1, by omega, by go_num, HV, ⟨_, HYD.out⟩, rfl⟩
                  case measure => simp [intOf]; omega
                · have hle2 : decide (fi < hg q) = true := decide_eq_true (by omega)
                  have HV := Lib.hid (HF.out (fun h => hle (HS.out.1 h).2.2))
                  rw [hu] at c1
                  clear hu hq hbt HG HF HT HS
                  go_wp2
                  refine wp_region_after (by kernel_rfl) (by kernel_rfl) ?_; (repeat (first | go_big_quiet_step ((go_at_call 48; with_reducible exact quiet_after (HB.out _))) | (refine wpQuiet_step (fun K hK => ?_); go_simp; first | (refine hK _ ?_; clear hK K) | (apply Exists.intro; refine ⟨fun x => ?_, hK _ ?_⟩; (go_at_call 48; with_reducible exact quiet_after (HB.out _)); clear hK K)))); refine wpQuiet_nil ?_
                  intro y
                  go_wp2
                  refine wp_region_after (by kernel_rfl) (by kernel_rfl) ?_; (repeat (first | go_big_quiet_step ((fail)) | (refine wpQuiet_step (fun K hK => ?_); go_simp; first | (refine hK _ ?_; clear hK K) | (apply Exists.intro; refine ⟨fun x => ?_, hK _ ?_⟩; (fail); clear hK K)))); refine wpQuiet_nil ?_
                  intro y2
                  have HYD := Lib.hid ((x.out.trans (y.out.mono x.out.size)).trans (y2.out.mono (x.out.trans (y.out.mono x.out.size)).size))
                  go_wp2
                  go_returns
                  exact ⟨by rw [HX.out, HV.out]; rfl, HB2.out.trans (HYD.out.mono HB2.out.size)⟩
          · obtain ⟨j, rfl⟩ : ∃ j, k = j + 1 := ⟨k - 1, by omega⟩
            have hlow := stD_low HT.out j (by omega)
            obtain ⟨p, hp⟩ : ∃ p : Nat, d j = (p : Nat) := ⟨(d j).toNat, by omega⟩
            have HS : Hid (StD hg sd n fi ga d (j + 1) ↔ Bt3 (d (j + 1)) ((p : Int) + 1) ((n : Int) - 1) ∧ sd (d (j + 1)).toNat = true ∧ hg (d (j + 1)).toNat ≤ hg p + ga) := Lib.hid (by
              unfold StD frD htD
              rw [if_neg (by omega), if_neg (by omega), Nat.add_sub_cancel, hp]
              rfl)
            obtain ⟨db2, do2, e2, _, dj⟩ := HD2.out j (by omega)
            cases e2
            rw [hp] at dj hlow
            have hpn : p < n := by omega
            have hpI : (p : Int) < (n : Int) := by omega
            have hk0 : (0 : Int) < ((j + 1 : Nat) : Int) := by omega
            have hj1 : ((j + 1 : Nat) : Int) - 1 = (j : Int) := by omega
            have hjn : (j : Int) < (m : Int) := by omega
            have hkz2 : (((j : Int) + 1) == 0) = false := by rw [beq_eq_false_iff_ne]; omega
            have hkz3 : (((j + 1 : Nat) : Int) == 0) = false := by rw [beq_eq_false_iff_ne]; omega
            clear h0
            obtain ⟨pb, po, rfl, hpb, p0, _⟩ := HA2.out p hpn
            have hpb3 : pb < x.w.heap.size := by omega
            have hhp := HP.out p hpn
            obtain ⟨hhp0, hhp1⟩ := hhp
            clear hp
            generalize d (j + 1) = dv at *
            cases hq : decide (Bt3 dv 0 ((n : Int) - 1))
            · have HV := Lib.hid (HF.out (fun h => absurd (HS.out.1 h).1 (fun h2 => absurd (show Bt3 dv 0 ((n : Int) - 1) from ⟨by have := h2.1; omega, h2.2⟩) (of_decide_eq_false hq))))
              have HB := Lib.hid (fun W => (within3_any dv 0 ((n : Int) - 1) W).mono (fun e w' h => (⟨hq ▸ h.1, h.2 ▸ Below.refl _ _⟩ : e = .returned (.bool false) ∧ Below W.heap.size W w')))
              clear hq HG HF HT HS
              go_wp2
              refine wp_region_after (by kernel_rfl) (by kernel_rfl) ?_; (repeat (first | go_big_quiet_step ((go_at_call 48; with_reducible exact quiet_after (HB.out _))) | (refine wpQuiet_step (fun K hK => ?_); go_simp; first | (refine hK _ ?_; clear hK K) | (apply Exists.intro; refine ⟨fun x => ?_, hK _ ?_⟩; (go_at_call 48; with_reducible exact quiet_after (HB.out _)); clear hK K)))); refine wpQuiet_nil ?_
              intro y
              go_wp2
              go_returns
              exact ⟨by rw [HX.out, HV.out]; rfl, by (repeat' (first | (with_reducible exact Below.refl _ _) | (with_reducible assumption) | (with_reducible refine Below.alloc ?_ ?_ _) | (with_reducible refine Below.drew ?_) | (with_reducible refine below_drewN ?_ _) | (with_reducible refine Below.setCell ?_ ?_ _) | (with_reducible refine below_after ?_ ?_ _) | (with_reducible refine below_set ?_) | (with_reducible refine After.size_le _ ?_) | (with_reducible refine size_alloc_le ?_) | (with_reducible refine size_set_le ?_) | (with_reducible refine size_drewN_le ?_) | go_size))⟩
            · have HB := Lib.hid (fun W => (within3_any dv 0 ((n : Int) - 1) W).mono (fun e w' h => (⟨hq ▸ h.1, h.2 ▸ Below.refl _ _⟩ : e = .returned (.bool true) ∧ Below W.heap.size W w')))
              have hbt := of_decide_eq_true hq
              obtain ⟨q, rfl⟩ : ∃ q : Nat, dv = (q : Nat) := ⟨dv.toNat, by unfold Bt3 at hbt; omega⟩
              have hqn : q < n := by unfold Bt3 at hbt; omega
              have hqI : (q : Int) < (n : Int) := by omega
              obtain ⟨jb, jo, e3, hjb, c0, c1⟩ := HA2.out q hqn
              cases e3
              rw [show ((q : Int)).toNat = q from rfl] at HS
              have hhq := HP.out q hqn
              obtain ⟨hhq0, hhq1⟩ := hhq
              cases hu : sd q
              · have HV := Lib.hid (HF.out (fun h => by have := (HS.out.1 h).2.1; rw [hu] at this; cases this))
                rw [hu] at c1
                clear hu hq hbt HG HF HT HS
                go_wp2
                refine wp_region_after (by kernel_rfl) (by kernel_rfl) ?_; (repeat (first | go_big_quiet_step ((go_at_call 48; with_reducible exact quiet_after (HB.out _))) | (refine wpQuiet_step (fun K hK => ?_); go_simp; first | (refine hK _ ?_; clear hK K) | (apply Exists.intro; refine ⟨fun x => ?_, hK _ ?_⟩; (go_at_call 48; with_reducible exact quiet_after (HB.out _)); clear hK K)))); refine wpQuiet_nil ?_
                intro y
                go_wp2
                go_returns
                exact ⟨by rw [HX.out, HV.out]; rfl, by (repeat' (first | (with_reducible exact Below.refl _ _) | (with_reducible assumption) | (with_reducible refine Below.alloc ?_ ?_ _) | (with_reducible refine Below.drew ?_) | (with_reducible refine below_drewN ?_ _) | (with_reducible refine Below.setCell ?_ ?_ _) | (with_reducible refine below_after ?_ ?_ _) | (with_reducible refine below_set ?_) | (with_reducible refine After.size_le _ ?_) | (with_reducible refine size_alloc_le ?_) | (with_reducible refine size_set_le ?_) | (with_reducible refine size_drewN_le ?_) | go_size))⟩
              · by_cases hgt : p < q
                · have hgtI : ¬ ((q : Int) ≤ (p : Int)) := by omega
                  by_cases hle : hg q - hg p ≤ ga
                  · have hle2 : decide (ga < hg q - hg p) = false := decide_eq_false (by omega)
                    have HV := Lib.hid (HG.out (HS.out.2 ⟨⟨by omega, hbt.2⟩, hu, by omega⟩))
                    rw [hu] at c1
                    clear hu hq hbt HG HF HT HS
                    go_wp2
                    refine wp_region_after (by kernel_rfl) (by kernel_rfl) ?_; (repeat (first | go_big_quiet_step ((go_at_call 48; with_reducible exact quiet_after (HB.out _))) | (refine wpQuiet_step (fun K hK => ?_); go_simp; first | (refine hK _ ?_; clear hK K) | (apply Exists.intro; refine ⟨fun x => ?_, hK _ ?_⟩; (go_at_call 48; with_reducible exact quiet_after (HB.out _)); clear hK K)))); refine wpQuiet_nil ?_
                    intro y
                    go_wp2
                    refine wp_region_after (by kernel_rfl) (by kernel_rfl) ?_; (repeat (first | go_big_quiet_step ((fail)) | (refine wpQuiet_step (fun K hK => ?_); go_simp; first | (refine hK _ ?_; clear hK K) | (apply Exists.intro; refine ⟨fun x => ?_, hK _ ?_⟩; (fail); clear hK K)))); refine wpQuiet_nil ?_
                    intro y2
                    have HYD := Lib.hid ((x.out.trans (y.out.mono x.out.size)).trans (y2.out.mono (x.out.trans (y.out.mono x.out.size)).size))
                    go_wp2
                    go_roundw
                    case rel => exact ⟨j + 1 + 1, by omega, by go_num, HV, ⟨_, HYD.out⟩, rfl⟩
                    case measure => simp [intOf]; omega
                  · have hle2 : decide (ga < hg q - hg p) = true := decide_eq_true (by omega)
                    have HV := Lib.hid (HF.out (fun h => hle (by have := (HS.out.1 h).2.2; omega)))
                    rw [hu] at c1
                    clear hu hq hbt HG HF HT HS
                    go_wp2
                    refine wp_region_after (by kernel_rfl) (by kernel_rfl) ?_; (repeat (first | go_big_quiet_step ((go_at_call 48; with_reducible exact quiet_after (HB.out _))) | (refine wpQuiet_step (fun K hK => ?_); go_simp; first | (refine hK _ ?_; clear hK K) | (apply Exists.intro; refine ⟨fun x => ?_, hK _ ?_⟩; (go_at_call 48; with_reducible exact quiet_after (HB.out _)); clear hK K)))); refine wpQuiet_nil ?_
                    intro y
                    go_wp2
                    refine wp_region_after (by kernel_rfl) (by kernel_rfl) ?_; (repeat (first | go_big_quiet_step ((fail)) | (refine wpQuiet_step (fun K hK => ?_); go_simp; first | (refine hK _ ?_; clear hK K) | (apply Exists.intro; refine ⟨fun x => ?_, hK _ ?_⟩; (fail); clear hK K)))); refine wpQuiet_nil ?_
                    intro y2
                    have HYD := Lib.hid ((x.out.trans (y.out.mono x.out.size)).trans (y2.out.mono (x.out.trans (y.out.mono x.out.size)).size))
                    go_wp2
                    go_returns
                    exact ⟨by rw [HX.out, HV.out]; rfl, HB2.out.trans (HYD.out.mono HB2.out.size)⟩
                · have hgtI : (q : Int) ≤ (p : Int) := by omega
                  have HV := Lib.hid (HF.out (fun h => hgt (by have := (HS.out.1 h).1.1; omega)))
                  rw [hu] at c1
                  clear hu hq hbt HG HF HT HS
                  go_wp2
                  refine wp_region_after (by kernel_rfl) (by kernel_rfl) ?_; (repeat (first | go_big_quiet_step ((go_at_call 48; with_reducible exact quiet_after (HB.out _))) | (refine wpQuiet_step (fun K hK => ?_); go_simp; first | (refine hK _ ?_; clear hK K) | (apply Exists.intro; refine ⟨fun x => ?_, hK _ ?_⟩; (go_at_call 48; with_reducible exact quiet_after (HB.out _)); clear hK K)))); refine wpQuiet_nil ?_
                  intro y
                  go_wp2
                  go_returns
                  exact ⟨by rw [HX.out, HV.out]; rfl, by (repeat' (first | (with_reducible exact Below.refl _ _) | (with_reducible assumption) | (with_reducible refine Below.alloc ?_ ?_ _) | (with_reducible refine Below.drew ?_) | (with_reducible refine below_drewN ?_ _) | (with_reducible refine Below.setCell ?_ ?_ _) | (with_reducible refine below_after ?_ ?_ _) | (with_reducible refine below_set ?_) | (with_reducible refine After.size_le _ ?_) | (with_reducible refine size_alloc_le ?_) | (with_reducible refine size_set_le ?_) | (with_reducible refine size_drewN_le ?_) | go_size))⟩
        · obtain rfl : k = m := by omega
          obtain ⟨j, rfl⟩ : ∃ j, k = j + 1 := ⟨k - 1, by omega⟩
          have hlow := stD_low HT.out j (by omega)
          obtain ⟨p, hp⟩ : ∃ p : Nat, d j = (p : Nat) := ⟨(d j).toNat, by omega⟩
          obtain ⟨db2, do2, rfl, hdb2, dj⟩ := HD2.out j (by omega)
          have HVt : Hid (decide (RtP hg sd n fi ga (tp - ga) (j + 1) d) = decide (tp ≤ hg p + ga)) := Lib.hid (by
            rw [Bool.eq_iff_iff]
            simp only [decide_eq_true_eq]
            have e : hg (d (j + 1 - 1)).toNat = hg p := by rw [Nat.add_sub_cancel, hp]; rfl
            exact ⟨fun h => by have := h.2.2; rw [e] at this; omega, fun h => ⟨HT.out, by omega, by rw [e]; omega⟩⟩)
          rw [hp] at dj hlow
          have hpn : p < n := by omega
          have hpI : (p : Int) < (n : Int) := by omega
          obtain ⟨pb, po, rfl, hpb, p0, _⟩ := HA2.out p hpn
          have hhp := HP.out p hpn
          obtain ⟨hhp0, hhp1⟩ := hhp
          clear hp HT
          have hj1 : ((j + 1 : Nat) : Int) - 1 = (j : Int) := by omega
          go_wp2
          refine wp_region_after (by kernel_rfl) (by kernel_rfl) ?_; (repeat (first | go_big_quiet_step ((fail)) | (refine wpQuiet_step (fun K hK => ?_); go_simp; first | (refine hK _ ?_; clear hK K) | (apply Exists.intro; refine ⟨fun x => ?_, hK _ ?_⟩; (fail); clear hK K)))); refine wpQuiet_nil ?_
          intro y2
          have HYD := Lib.hid (x.out.trans (y2.out.mono x.out.size))
          go_wp2
          go_returns
          exact ⟨by rw [HX.out, HVt.out]; rfl, HB2.out.trans (HYD.out.mono HB2.out.size)⟩
  · have HX : Hid (decide ((VcP fi ga tp le lp sg ∧ VjP n hg) ∧ RtP hg sd n fi ga (tp - ga) m d) = false) := Lib.hid (decide_eq_false fun h => hv h.1)
    go_enter Try.func20, Try.ntmps20
    by_cases hj : VjP n hg
    · rw [decide_eq_true hj] at HV
      rw [decide_eq_false (fun h => hv ⟨h, hj⟩)] at HC
      clear hA hD hv hj
      go_wp2_with fail
      refine calls_after (HV.out _ (by (repeat' (first | (with_reducible exact Below.refl _ _) | (with_reducible assumption) | (with_reducible refine Below.alloc ?_ ?_ _) | (with_reducible refine Below.drew ?_) | (with_reducible refine below_drewN ?_ _) | (with_reducible refine Below.setCell ?_ ?_ _) | (with_reducible refine below_after ?_ ?_ _) | (with_reducible refine below_set ?_) | (with_reducible refine After.size_le _ ?_) | (with_reducible refine size_alloc_le ?_) | (with_reducible refine size_set_le ?_) | (with_reducible refine size_drewN_le ?_) | go_size)))) ?_
      intro x1
      go_wp2_with fail
      refine calls_after (HC.out _) ?_
      intro x2
      go_wp2
      go_returns
      exact ⟨by rw [HX.out]; rfl, by (repeat' (first | (with_reducible exact Below.refl _ _) | (with_reducible assumption) | (with_reducible refine Below.alloc ?_ ?_ _) | (with_reducible refine Below.drew ?_) | (with_reducible refine below_drewN ?_ _) | (with_reducible refine Below.setCell ?_ ?_ _) | (with_reducible refine below_after ?_ ?_ _) | (with_reducible refine below_set ?_) | (with_reducible refine After.size_le _ ?_) | (with_reducible refine size_alloc_le ?_) | (with_reducible refine size_set_le ?_) | (with_reducible refine size_drewN_le ?_) | go_size))⟩
    · rw [decide_eq_false hj] at HV
      clear hA hD hv hj
      go_wp2_with fail
      refine calls_after (HV.out _ (by (repeat' (first | (with_reducible exact Below.refl _ _) | (with_reducible assumption) | (with_reducible refine Below.alloc ?_ ?_ _) | (with_reducible refine Below.drew ?_) | (with_reducible refine below_drewN ?_ _) | (with_reducible refine Below.setCell ?_ ?_ _) | (with_reducible refine below_after ?_ ?_ _) | (with_reducible refine below_set ?_) | (with_reducible refine After.size_le _ ?_) | (with_reducible refine size_alloc_le ?_) | (with_reducible refine size_set_le ?_) | (with_reducible refine size_drewN_le ?_) | go_size)))) ?_
      intro x1
      go_wp2
      go_returns
      exact ⟨by rw [HX.out]; rfl, by (repeat' (first | (with_reducible exact Below.refl _ _) | (with_reducible assumption) | (with_reducible refine Below.alloc ?_ ?_ _) | (with_reducible refine Below.drew ?_) | (with_reducible refine below_drewN ?_ _) | (with_reducible refine Below.setCell ?_ ?_ _) | (with_reducible refine below_after ?_ ?_ _) | (with_reducible refine below_set ?_) | (with_reducible refine After.size_le _ ?_) | (with_reducible refine size_alloc_le ?_) | (with_reducible refine size_set_le ?_) | (with_reducible refine size_drewN_le ?_) | go_size))⟩
end Go.Proofs.Ytbjdojcenflliaa
