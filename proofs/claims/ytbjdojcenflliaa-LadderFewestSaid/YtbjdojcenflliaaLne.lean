/- need in the reference: the counts. -/
import Derived.Test.YtbjdojcenflliaaLnd
namespace Go.Proofs.Ytbjdojcenflliaa
open Go.RowKit Go.Shelf
attribute [local go_sem] Oper.semAt_some
attribute [local go_sem] After.cell After.frozen After.lt After.le After.ne After.ne' After.set_eq After.size_set After.lt_add

set_option maxRecDepth 100000 in
set_option maxHeartbeats 4000000 in
theorem need_any (fi ga tp le lp sg : Int) (a : Option Addr) (n cap : Nat) (hg : Nat → Int) (sd : Nat → Bool) (w : World) (hA : JtAt w a n hg sd) (hv : VjP n hg) (hga : 1 ≤ ga ∧ ga ≤ 200000) (htp : 1 ≤ tp ∧ tp ≤ 200000) :
    Calls Try.prog 74 #[.agg #[.int .i64 fi, .int .i64 ga, .int .i64 tp, .int .i64 le, .int .i64 lp, .int .i64 sg], .slice a n cap] w fun e w' => (∃ B, e = .returned (.slice (some ⟨B, 0, none⟩) n n) ∧ w.heap.size ≤ B ∧ DRw w' B n (fun k => ((ndP hg sd n ga (tp - ga) 0 k : Nat) : Int))) ∧ Below w.heap.size w w' := by
  obtain ⟨i0, hi, hz0, hz1, hz2⟩ := info_parts intInfo3
  have hnI : (n : Int) ≤ 200 := by have := hv.1; omega
  have hmk := fun w' => run_make (P := Try.prog) w' 25 3 i0 _ Try.underlying25 hi hz0 .i64 .i64 (n : Int) (n : Int) (by omega) (by omega) (by rw [hz2]; omega) (by omega)
  rw [hz1] at hmk
  simp only [Int.toNat_natCast] at hmk
  have HA := Lib.hid hA
  have HP := Lib.hid (fun k hk => vjT_pos hv.2 (i := k) hk)
  obtain ⟨hga0, hga1⟩ := hga
  obtain ⟨htp0, htp1⟩ := htp
  clear hA hv
  go_enter Try.func74, Try.ntmps74
  go_wp2
  clear hmk
  obtain ⟨W3, hW3⟩ : ∃ W3, (w.alloc (.cells #[.int .i64 fi, .int .i64 ga, .int .i64 tp, .int .i64 le, .int .i64 lp, .int .i64 sg] 23)).alloc (.cells (madeCells #[.int .i64 0] n) 3) = W3 := ⟨_, rfl⟩
  have B3 : Hid (Below w.heap.size w W3) := Lib.hid (by rw [← hW3]; (repeat' (first | (with_reducible exact Below.refl _ _) | (with_reducible assumption) | (with_reducible refine Below.alloc ?_ ?_ _) | (with_reducible refine Below.drew ?_) | (with_reducible refine below_drewN ?_ _) | (with_reducible refine Below.setCell ?_ ?_ _) | (with_reducible refine below_after ?_ ?_ _) | (with_reducible refine below_set ?_) | (with_reducible refine After.size_le _ ?_) | (with_reducible refine size_alloc_le ?_) | (with_reducible refine size_set_le ?_) | (with_reducible refine size_drewN_le ?_) | go_size)))
  have s3 : W3.heap.size = w.heap.size + 2 := by rw [← hW3]; simp
  have D3 : Hid (DRw W3 (w.heap.size + 1) n (fun k => ((ndP hg sd n ga (tp - ga) n k : Nat) : Int))) := Lib.hid (by
    rw [← hW3]
    have := drw_made (w.alloc (.cells #[.int .i64 fi, .int .i64 ga, .int .i64 tp, .int .i64 le, .int .i64 lp, .int .i64 sg] 23)) n (by omega)
    rw [World.size_alloc] at this
    refine this.re fun k hk => ?_
    unfold ndP
    rw [if_neg (fun h => by omega)]
    rfl)
  have q1 : W3.cell? ⟨w.heap.size, 1, none⟩ = some (.int .i64 ga) := by rw [← hW3]; simp [go_sem]
  have q2 : W3.cell? ⟨w.heap.size, 2, none⟩ = some (.int .i64 tp) := by rw [← hW3]; simp [go_sem]
  have HA3 := Lib.hid (HA.out.on B3.out)
  have hab : Hid (∀ b off, a = some ⟨b, off, none⟩ → 0 < n → ¬ b = w.heap.size + 1) := Lib.hid (fun b off e h => by
    obtain ⟨b', off', e', h1, _⟩ := HA.out 0 h
    rw [e] at e'; cases e'; omega)
  rw [hW3]
  clear hW3 HA
  go_loopw [6] (fun i W => ∃ (p : Nat) (z : Int), i = .int .i64 z ∧ z + 1 = (p : Nat) ∧ p ≤ n ∧ Hid (DRw W (w.heap.size + 1) n (fun k => ((ndP hg sd n ga (tp - ga) p k : Nat) : Int))) ∧ Hid (Fr (fun x => x = w.heap.size + 1) W3 W)) (fun i _ => (intOf i + 1).toNat)
  case atStart => exact ⟨n, (n : Int) - 1, rfl, by omega, Nat.le_refl _, D3, Lib.hid (Fr.refl _)⟩
  case round =>
    clear D3
    obtain ⟨p, z, rfl, hz, hp, HG, HF⟩ := hrel
    have k1 := HF.out.cell (p := ⟨w.heap.size, 1, none⟩) (by dsimp only; omega) q1
    have k2 := HF.out.cell (p := ⟨w.heap.size, 2, none⟩) (by dsimp only; omega) q2
    have hszw := HF.out.size
    have hws : w.heap.size < wr.heap.size := by omega
    rcases p with _ | p
    · obtain rfl : z = -1 := by omega
      go_wp2
      go_ret
      exact ⟨⟨_, rfl, by omega, HG.out⟩, B3.out.trans (HF.out.below B3.out.size (fun j hj => by omega))⟩
    · obtain rfl : z = (p : Int) := by omega
      clear hz
      have hpn : (p : Int) < (n : Int) := by omega
      obtain ⟨b, off, rfl, hbb, c0, c1⟩ := (HA3.out.fr HF.out hab.out) p (by omega)
      have hgp := HP.out p (by omega)
      obtain ⟨hgp0, hgp1⟩ := hgp
      cases hsd : sd p
      · have HG2 := Lib.hid (HG.out.re (g' := fun k => ((ndP hg sd n ga (tp - ga) p k : Nat) : Int)) (fun k hk => by rw [ndP_zero (show p < n by omega) hsd k]))
        rw [hsd] at c1
        clear hsd HG
        go_wp2
        go_roundw
        case rel => exact ⟨p, (p : Int) - 1, by go_num, by omega, by omega, HG2, HF⟩
        case measure => simp [intOf] <;> omega
      · rw [hsd] at c1
        have hnp := (HG.out.2 p (by omega))
        have HSd := Lib.hid hsd
        have HAW := Lib.hid (HA3.out.fr HF.out hab.out)
        by_cases htop : tp ≤ hg p + ga
        · have htop2 : decide (tp ≤ hg p + ga) = true := decide_eq_true htop
          have HC : Hid (ctN hg sd n ga (tp - ga) p = 1) := Lib.hid (by rw [ctN_val (by omega)]; unfold ctV; rw [if_pos (by omega)])
          clear hsd hnp
          go_wp2
          refine wp_region_after (by kernel_rfl) (by kernel_rfl) ?_; (repeat (first | go_big_quiet_step ((fail)) | (refine wpQuiet_step (fun K hK => ?_); go_simp; first | (refine hK _ ?_; clear hK K) | (apply Exists.intro; refine ⟨fun x => ?_, hK _ ?_⟩; (fail); clear hK K)))); refine wpQuiet_nil ?_
          intro y
          have HGy := Lib.hid (HG.out.on y.out)
          have HFy := Lib.hid (HF.out.call y.out)
          obtain ⟨hn1, hn2⟩ := HGy.out.2 p (by omega)
          generalize y.w = V at *
          clear HG HF HAW k1 k2 c0 c1
          go_wp2
          go_roundw
          case rel => exact ⟨p, (p : Int) - 1, by go_num, by omega, by omega, Lib.hid (HGy.out.set 1 (fun k hk => by rw [ndP_set (show p < n by omega) HSd.out HC.out k]; rfl)), Lib.hid (HFy.out.setCell (p := ⟨w.heap.size + 1, p, none⟩) (.inl rfl) _)⟩
          case measure => simp [intOf] <;> omega
        · have htop2 : decide (tp ≤ hg p + ga) = false := decide_eq_false htop
          clear hsd hnp
          go_wp2
          refine wp_region_after (by kernel_rfl) (by kernel_rfl) ?_; (repeat (first | go_big_quiet_step ((fail)) | (refine wpQuiet_step (fun K hK => ?_); go_simp; first | (refine hK _ ?_; clear hK K) | (apply Exists.intro; refine ⟨fun x => ?_, hK _ ?_⟩; (fail); clear hK K)))); refine wpQuiet_nil ?_
          intro y
          have HGy := Lib.hid (HG.out.on y.out)
          have HFy := Lib.hid (HF.out.call y.out)
          generalize y.w = V at *
          clear HG HF HAW k1 k2 c0 c1
          have HE : Hid (ctN hg sd n ga (tp - ga) p = if lsL (ctN hg sd n ga (tp - ga)) (upT hg sd n (hg p + ga) (p + 1)) = 0 then 0 else lsL (ctN hg sd n ga (tp - ga)) (upT hg sd n (hg p + ga) (p + 1)) + 1) := Lib.hid (by rw [ctN_val (by omega)]; unfold ctV; rw [if_neg (by omega)])
          go_wp2
          go_loopw [7] (fun v W => ∃ (k : Nat) (pre : List Nat), v = .int .i64 k ∧ (p + 1 ≤ k ∧ k ≤ n) ∧ Hid (upT hg sd n (hg p + ga) (p + 1) = pre ++ upT hg sd n (hg p + ga) k) ∧ Hid (DRw W (w.heap.size + 1) n (fun x => if x = p then ((if lsL (ctN hg sd n ga (tp - ga)) pre = 0 then 0 else lsL (ctN hg sd n ga (tp - ga)) pre + 1 : Nat) : Int) else ((ndP hg sd n ga (tp - ga) (p + 1) x : Nat) : Int))) ∧ Hid (Fr (fun x => x = w.heap.size + 1) W3 W)) (fun v _ => n - (intOf v).toNat)
          case atStart => exact ⟨p + 1, [], by go_num, ⟨Nat.le_refl _, by omega⟩, Lib.hid rfl, Lib.hid (HGy.out.re (fun k hk => by
            by_cases e : k = p
            · subst e
              have e0 : ndP hg sd n ga (tp - ga) (k + 1) k = 0 := by unfold ndP; rw [if_neg (fun h => by omega)]
              rw [if_pos rfl, e0]
              rfl
            · rw [if_neg e])), HFy⟩
          case round =>
            clear HGy HFy
            obtain ⟨k, pre, rfl, ⟨hpk, hkn⟩, HU, HG, HF⟩ := hrel
            have k1 := HF.out.cell (p := ⟨w.heap.size, 1, none⟩) (by dsimp only; omega) q1
            have hszv := HF.out.size
            have hws : w.heap.size < wr.heap.size := by omega
            obtain ⟨b5, off5, e5, hbb, c0, c1⟩ := (HA3.out.fr HF.out hab.out) p (by omega)
            cases e5
            have hbw : b < wr.heap.size := hbb
            by_cases hlt : k < n
            · obtain ⟨b6, off6, e6, _, d0, d1⟩ := (HA3.out.fr HF.out hab.out) k hlt
              cases e6
              have hgk := HP.out k hlt
              obtain ⟨hgk0, hgk1⟩ := hgk
              have hlti : (k : Int) < (n : Int) := by omega
              by_cases hle : hg k - hg p ≤ ga
              · have hle2 : decide (hg k - hg p ≤ ga) = true := decide_eq_true hle
                go_wp2
                refine wp_region_after (by kernel_rfl) (by kernel_rfl) ?_; (repeat (first | go_big_quiet_step ((fail)) | (refine wpQuiet_step (fun K hK => ?_); go_simp; first | (refine hK _ ?_; clear hK K) | (apply Exists.intro; refine ⟨fun x => ?_, hK _ ?_⟩; (fail); clear hK K)))); refine wpQuiet_nil ?_
                intro y
                have HG1 := Lib.hid (HG.out.on y.out)
                have HF1 := Lib.hid (HF.out.call y.out)
                obtain ⟨hk0, -⟩ := HG1.out.2 k hlt
                obtain ⟨hp0, -⟩ := HG1.out.2 p (by omega)
                have hk1 : y.w.cell? ⟨w.heap.size + 1, k, none⟩ = some (.int .i64 ((ndP hg sd n ga (tp - ga) (p + 1) k : Nat) : Int)) := hk0.trans (by show some (Value.int .i64 (if k = p then _ else _)) = _; rw [if_neg (show ¬ k = p by omega)])
                have hp1 : y.w.cell? ⟨w.heap.size + 1, p, none⟩ = some (.int .i64 ((if lsL (ctN hg sd n ga (tp - ga)) pre = 0 then 0 else lsL (ctN hg sd n ga (tp - ga)) pre + 1 : Nat) : Int)) := hp0.trans (by show some (Value.int .i64 (if p = p then _ else _)) = _; rw [if_pos rfl])
                have hyl : w.heap.size + 1 < y.w.heap.size := HG1.out.1
                clear hk0 hp0
                generalize y.w = V at *
                clear HG HF k1 c0 c1 d0 d1
                have hqle := ndP_le (hg := hg) (sd := sd) (n := n) (st := ga) (la := tp - ga) (p + 1) k
                have HQ := Lib.hid (ndP_at (hg := hg) (sd := sd) (n := n) (st := ga) (la := tp - ga) (p := p + 1) (k := k) (by omega) hlt)
                obtain ⟨q, hq⟩ : ∃ q, ndP hg sd n ga (tp - ga) (p + 1) k = q := ⟨_, rfl⟩
                rw [hq] at hk1 hqle HQ
                clear hq
                obtain ⟨m, hm⟩ : ∃ m, lsL (ctN hg sd n ga (tp - ga)) pre = m := ⟨_, rfl⟩
                have hmle : m ≤ n := by
                  rw [← hm]
                  by_cases h0 : lsL (ctN hg sd n ga (tp - ga)) pre = 0
                  · omega
                  · obtain ⟨j, _, hj⟩ := ls_some h0
                    have := ctS_le (h := hg) (u := sd) (N := n) (st := ga) (la := tp - ga) n j
                    unfold ctN at hj ⊢
                    omega
                have HM := Lib.hid hm
                rw [hm] at hp1
                clear hm
                rcases q with _ | q
                · replace hk1 : V.cell? ⟨w.heap.size + 1, k, none⟩ = some (.int .i64 0) := hk1
                  have HPr : Hid (∃ pre', upT hg sd n (hg p + ga) (p + 1) = pre' ++ upT hg sd n (hg p + ga) (k + 1) ∧ lsL (ctN hg sd n ga (tp - ga)) pre' = lsL (ctN hg sd n ga (tp - ga)) pre) := Lib.hid (by
                    cases hsk : sd k
                    · exact ⟨pre, by rw [HU.out, upT_skip ⟨hlt, by omega⟩ hsk], rfl⟩
                    · refine ⟨pre ++ [k], by rw [HU.out, upT_take ⟨hlt, by omega⟩ hsk]; simp, ?_⟩
                      have h0 := HQ.out
                      rw [hsk, if_pos rfl] at h0
                      rw [lsL_snoc]
                      unfold lsS
                      rw [if_neg (fun h => h.1 h0.symm)])
                  obtain ⟨pre', hpr1, hpr2⟩ := HPr.out
                  have HP1 := Lib.hid hpr1
                  have HG2 : Hid (DRw V (w.heap.size + 1) n (fun x => if x = p then ((if lsL (ctN hg sd n ga (tp - ga)) (pre') = 0 then 0 else lsL (ctN hg sd n ga (tp - ga)) (pre') + 1 : Nat) : Int) else ((ndP hg sd n ga (tp - ga) (p + 1) x : Nat) : Int))) := Lib.hid (by rw [hpr2]; exact HG1.out)
                  clear hpr1 hpr2 HPr HQ HM
                  go_wp2
                  refine wp_region_after (by kernel_rfl) (by kernel_rfl) ?_; (repeat (first | go_big_quiet_step ((fail)) | (refine wpQuiet_step (fun K hK => ?_); go_simp; first | (refine hK _ ?_; clear hK K) | (apply Exists.intro; refine ⟨fun x => ?_, hK _ ?_⟩; (fail); clear hK K)))); refine wpQuiet_nil ?_
                  intro y2
                  have HG3 := Lib.hid (HG2.out.on y2.out)
                  have HF3 := Lib.hid (HF1.out.call y2.out)
                  generalize y2.w = V2 at *
                  clear HG1 HG2 HF1 hk1 hp1
                  go_wp2
                  go_roundw
                  case rel => exact ⟨k + 1, pre', by go_num, ⟨by omega, by omega⟩, HP1, HG3, HF3⟩
                  case measure => simp [intOf] <;> omega
                · have hsk : sd k = true := by
                    cases h : sd k with
                    | true => rfl
                    | false => have h0 := HQ.out; rw [h] at h0; simp at h0
                  have HP1 : Hid (upT hg sd n (hg p + ga) (p + 1) = (pre ++ [k]) ++ upT hg sd n (hg p + ga) (k + 1)) := Lib.hid (by rw [HU.out, upT_take ⟨hlt, by omega⟩ hsk]; simp)
                  have HL : Hid (lsL (ctN hg sd n ga (tp - ga)) (pre ++ [k]) = if m = 0 ∨ q + 1 < m then q + 1 else m) := Lib.hid (by
                    have h0 := HQ.out
                    rw [hsk, if_pos rfl] at h0
                    rw [lsL_snoc, HM.out]
                    unfold lsS
                    rw [← h0]
                    by_cases h1 : m = 0 ∨ q + 1 < m
                    · rw [if_pos ⟨by omega, h1⟩, if_pos h1]
                    · rw [if_neg (fun h => h1 h.2), if_neg h1])
                  clear hsk HQ
                  have hq0 : decide ((0 : Int) < (q : Int) + 1) = true := decide_eq_true (by omega)
                  have hqI : (q : Int) + 1 ≤ 200 := by omega
                  replace hk1 : V.cell? ⟨w.heap.size + 1, k, none⟩ = some (.int .i64 ((q : Int) + 1)) := hk1.trans (by rw [show ((q + 1 : Nat) : Int) = (q : Int) + 1 by omega])
                  rcases m with _ | m
                  · replace hp1 : V.cell? ⟨w.heap.size + 1, p, none⟩ = some (.int .i64 0) := hp1
                    go_wp2
                    refine wp_region_after (by kernel_rfl) (by kernel_rfl) ?_; (repeat (first | go_big_quiet_step ((fail)) | (refine wpQuiet_step (fun K hK => ?_); go_simp; first | (refine hK _ ?_; clear hK K) | (apply Exists.intro; refine ⟨fun x => ?_, hK _ ?_⟩; (fail); clear hK K)))); refine wpQuiet_nil ?_
                    intro y2
                    have HG3 := Lib.hid (HG1.out.on y2.out)
                    have HF3 := Lib.hid (HF1.out.call y2.out)
                    have hk1 := (y2.out.cell (p := ⟨w.heap.size + 1, k, none⟩) hyl).trans hk1
                    obtain ⟨hn1, hn2⟩ := HG3.out.2 p (by omega)
                    generalize y2.w = V2 at *
                    clear HG1 HF1 hp1
                    go_wp2
                    go_roundw
                    case rel => exact ⟨k + 1, pre ++ [k], by go_num, ⟨by omega, by omega⟩, HP1, Lib.hid (HG3.out.set ((q : Int) + 1 + 1) (fun x hx => by
                      by_cases e : x = p
                      · have e1 : lsL (ctN hg sd n ga (tp - ga)) (pre ++ [k]) = q + 1 := by rw [HL.out]; exact if_pos (by simp)
                        rw [if_pos e, if_pos e, e1, if_neg (show ¬ (q + 1 = 0) by omega)]
                        rw [show ((q + 1 + 1 : Nat) : Int) = (q : Int) + 1 + 1 by omega]
                      · rw [if_neg e, if_neg e, if_neg e])), Lib.hid (HF3.out.setCell (p := ⟨w.heap.size + 1, p, none⟩) (.inl rfl) _)⟩
                    case measure => simp [intOf] <;> omega
                  · have hmI : (m : Int) + 1 ≤ 200 := by omega
                    have hmz : (((m : Int) + 1 + 1) == 0) = false := by rw [beq_eq_false_iff_ne]; omega
                    replace hp1 : V.cell? ⟨w.heap.size + 1, p, none⟩ = some (.int .i64 ((m : Int) + 1 + 1)) := hp1.trans (by rw [if_neg (by omega), show ((m + 1 + 1 : Nat) : Int) = (m : Int) + 1 + 1 by omega])
                    by_cases hqm : q + 1 < m + 1
                    · have hltI : decide ((q : Int) + 1 + 1 < (m : Int) + 1 + 1) = true := decide_eq_true (by omega)
                      have hltJ : ((q : Int) + 1 + 1 < (m : Int) + 1 + 1) := by omega
                      have hltK : decide (q < m) = true := decide_eq_true (by omega)
                      go_wp2
                      refine wp_region_after (by kernel_rfl) (by kernel_rfl) ?_; (repeat (first | go_big_quiet_step ((fail)) | (refine wpQuiet_step (fun K hK => ?_); go_simp; first | (refine hK _ ?_; clear hK K) | (apply Exists.intro; refine ⟨fun x => ?_, hK _ ?_⟩; (fail); clear hK K)))); refine wpQuiet_nil ?_
                      intro y2
                      have HG3 := Lib.hid (HG1.out.on y2.out)
                      have HF3 := Lib.hid (HF1.out.call y2.out)
                      have hk1 := (y2.out.cell (p := ⟨w.heap.size + 1, k, none⟩) hyl).trans hk1
                      obtain ⟨hn1, hn2⟩ := HG3.out.2 p (by omega)
                      generalize y2.w = V2 at *
                      clear HG1 HF1 hp1
                      go_wp2
                      go_roundw
                      case rel => exact ⟨k + 1, pre ++ [k], by go_num, ⟨by omega, by omega⟩, HP1, Lib.hid (HG3.out.set ((q : Int) + 1 + 1) (fun x hx => by
                        by_cases e : x = p
                        · have e1 : lsL (ctN hg sd n ga (tp - ga)) (pre ++ [k]) = q + 1 := by rw [HL.out]; exact if_pos (.inr hqm)
                          rw [if_pos e, if_pos e, e1, if_neg (show ¬ (q + 1 = 0) by omega)]
                          rw [show ((q + 1 + 1 : Nat) : Int) = (q : Int) + 1 + 1 by omega]
                        · rw [if_neg e, if_neg e, if_neg e])), Lib.hid (HF3.out.setCell (p := ⟨w.heap.size + 1, p, none⟩) (.inl rfl) _)⟩
                      case measure => simp [intOf] <;> omega
                    · have hltI : decide ((q : Int) + 1 + 1 < (m : Int) + 1 + 1) = false := decide_eq_false (by omega)
                      have hltK : decide (q < m) = false := decide_eq_false (by omega)
                      go_wp2
                      refine wp_region_after (by kernel_rfl) (by kernel_rfl) ?_; (repeat (first | go_big_quiet_step ((fail)) | (refine wpQuiet_step (fun K hK => ?_); go_simp; first | (refine hK _ ?_; clear hK K) | (apply Exists.intro; refine ⟨fun x => ?_, hK _ ?_⟩; (fail); clear hK K)))); refine wpQuiet_nil ?_
                      intro y2
                      have HG3 : Hid (DRw y2.w (w.heap.size + 1) n (fun x => if x = p then ((if lsL (ctN hg sd n ga (tp - ga)) (pre ++ [k]) = 0 then 0 else lsL (ctN hg sd n ga (tp - ga)) (pre ++ [k]) + 1 : Nat) : Int) else ((ndP hg sd n ga (tp - ga) (p + 1) x : Nat) : Int))) := Lib.hid ((HG1.out.on y2.out).re (fun x hx => by
                        by_cases e : x = p
                        · have e1 : lsL (ctN hg sd n ga (tp - ga)) (pre ++ [k]) = m + 1 := by rw [HL.out]; exact if_neg (by omega)
                          rw [if_pos e, if_pos e, e1, HM.out]
                        · rw [if_neg e, if_neg e]))
                      have HF3 := Lib.hid (HF1.out.call y2.out)
                      generalize y2.w = V2 at *
                      clear HG1 HF1 hk1 hp1
                      go_wp2
                      go_roundw
                      case rel => exact ⟨k + 1, pre ++ [k], by go_num, ⟨by omega, by omega⟩, HP1, HG3, HF3⟩
                      case measure => simp [intOf] <;> omega
              · have hle2 : decide (hg k - hg p ≤ ga) = false := decide_eq_false hle
                have HXe : Hid (∀ W, DRw W (w.heap.size + 1) n (fun x => if x = p then ((if lsL (ctN hg sd n ga (tp - ga)) pre = 0 then 0 else lsL (ctN hg sd n ga (tp - ga)) pre + 1 : Nat) : Int) else ((ndP hg sd n ga (tp - ga) (p + 1) x : Nat) : Int)) → DRw W (w.heap.size + 1) n (fun k => ((ndP hg sd n ga (tp - ga) p k : Nat) : Int))) := Lib.hid (fun W h => h.re (fun x hx => by
                  have e := HE.out
                  rw [HU.out, upT_end (by omega), List.append_nil] at e
                  rw [ndP_set (show p < n by omega) HSd.out e x]))
                go_wp2
                refine wp_region_after (by kernel_rfl) (by kernel_rfl) ?_; (repeat (first | go_big_quiet_step ((fail)) | (refine wpQuiet_step (fun K hK => ?_); go_simp; first | (refine hK _ ?_; clear hK K) | (apply Exists.intro; refine ⟨fun x => ?_, hK _ ?_⟩; (fail); clear hK K)))); refine wpQuiet_nil ?_
                intro y
                have HGy := Lib.hid (HXe.out _ (HG.out.on y.out))
                have HFy := Lib.hid (HF.out.call y.out)
                generalize y.w = V at *
                clear HG HF k1 c0 c1 HXe
                go_wp2
                go_roundw
                case rel => exact ⟨p, (p : Int) - 1, by go_num, by omega, by omega, HGy, HFy⟩
                case measure => simp [intOf] <;> omega
            · have hlti : ¬ (k : Int) < (n : Int) := by omega
              have hlt2 : decide (k < n) = false := decide_eq_false hlt
              have HXe : Hid (∀ W, DRw W (w.heap.size + 1) n (fun x => if x = p then ((if lsL (ctN hg sd n ga (tp - ga)) pre = 0 then 0 else lsL (ctN hg sd n ga (tp - ga)) pre + 1 : Nat) : Int) else ((ndP hg sd n ga (tp - ga) (p + 1) x : Nat) : Int)) → DRw W (w.heap.size + 1) n (fun k => ((ndP hg sd n ga (tp - ga) p k : Nat) : Int))) := Lib.hid (fun W h => h.re (fun x hx => by
                have e := HE.out
                rw [HU.out, upT_end (by omega), List.append_nil] at e
                rw [ndP_set (show p < n by omega) HSd.out e x]))
              go_wp2
              refine wp_region_after (by kernel_rfl) (by kernel_rfl) ?_; (repeat (first | go_big_quiet_step ((fail)) | (refine wpQuiet_step (fun K hK => ?_); go_simp; first | (refine hK _ ?_; clear hK K) | (apply Exists.intro; refine ⟨fun x => ?_, hK _ ?_⟩; (fail); clear hK K)))); refine wpQuiet_nil ?_
              intro y
              have HGy := Lib.hid (HXe.out _ (HG.out.on y.out))
              have HFy := Lib.hid (HF.out.call y.out)
              generalize y.w = V at *
              clear HG HF k1 c0 c1 HXe
              go_wp2
              go_roundw
              case rel => exact ⟨p, (p : Int) - 1, by go_num, by omega, by omega, HGy, HFy⟩
              case measure => simp [intOf] <;> omega
end Go.Proofs.Ytbjdojcenflliaa
