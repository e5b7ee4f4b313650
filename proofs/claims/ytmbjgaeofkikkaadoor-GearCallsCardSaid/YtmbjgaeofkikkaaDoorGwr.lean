/- Weak of the reference. -/
import Derived.Test.YtmbjgaeofkikkaaDoorGww
import Derived.Test.YtmbjgaeofkikkaaDoorGut
namespace Go.Proofs.YtmbjgaeofkikkaaDoor
open Go.RowKit
attribute [local go_sem] After.cell After.frozen After.lt After.le After.ne After.ne' After.set_eq After.size_set After.lt_add tx_size tx_toList

section
variable (a : Option Addr) (n cap : Nat) (gm : Nat → List UInt8) (gl gd : Nat → Int) (gb : Nat → List UInt8) (al : Option Addr) (m capl : Nat) (lm : Nat → List UInt8) (lf : Nat → Int) (ak : Option Addr) (nk ck : Nat) (gs : Nat → List UInt8) (day : Int) (aq : Option Addr) (nq cq : Nat) (lo : Nat → Int) (w : World) (hA : ItAt w a n gm gl gd gb) (hL : LkAt w al m lm lf) (hT : TAt w ak nk gs) (hQ : GAt w aq nq lo) (hn : n ≤ 1000) (hm : m ≤ 1000) (hcap : m ≤ capl) (h1 : Sht n gm) (h2 : Sht n gb) (h3 : Sht m lm) (hnq : nq ≤ 1000) (hnk : nk ≤ 1000)
include hA hL hT hQ hn hm hcap h1 h2 h3 hnq hnk
set_option maxRecDepth 100000 in
set_option maxHeartbeats 4000000 in
theorem rweak_any : Calls Tryd.prog 26 #[.slice a n cap, .slice al m capl, .slice ak nk ck, .int .i64 day, .slice aq nq cq] w fun e w' => WkA m (wkF n gm lm gl gd gb m lf day nk gs nq lo) (wkE (vgB n gm gl gd gb && vrB n m gm lm lf) nk (brE nq lo (thN (enB m lf) m).length) day) w' e ∧ Below w.heap.size w w' := by
  have HV := Lib.hid (rvalidRig_say a n cap gm gl gd gb al m capl lm lf w hA hL hn hm hcap h1 h2 h3)
  have hkI : (nk : Int) ≤ 1000 := by omega
  have hmI : (m : Int) ≤ 1000 := by omega
  have hnI : (n : Int) ≤ 1000 := by omega
  have hqI : (nq : Int) ≤ 1000 := by omega
  cases hb : vgB n gm gl gd gb && vrB n m gm lm lf
  · rw [hb] at HV
    clear hb hA hL hT h1 h2 h3 hn hm hcap hQ hnq
    go_enter Tryd.func26, Tryd.ntmps26
    go_wp2_with fail
    refine HV.out.mono ?_
    rintro e w2 ⟨rfl, hb2⟩
    have HB2 := Lib.hid hb2
    clear hb2 HV
    go_wp2
    go_returns
    exact ⟨.inl ⟨by simp [wkE], rfl⟩, HB2.out⟩
  · have HV2 := vr_lt (n := n) (m := m) (gm := gm) (lm := lm) (lf := lf) (by simp at hb; exact hb.2)
    have HEn := Lib.hid (fun W (hW : Below w.heap.size w W) => rends_any al m capl lm lf W (hL.on hW) hm)
    have HLo := Lib.hid (fun W (hW : Below w.heap.size w W) => rloaded_any al m capl lm lf aq nq cq lo W (hL.on hW) (hQ.on hW) hm hnq)
    have HS := Lib.hid (fun W (hW : Below w.heap.size w W) h4 h5 => rborne_any al m capl lm lf aq nq cq lo W (hL.on hW) (hQ.on hW) hm HV2 h4 h5)
    have HBR := Lib.hid (fun i (hi : i < m) (h4 : nq = (thN (enB m lf) m).length) => bo_rb HV2 (lo := lo) (thN_nodup (enB m lf) m) th_mem hi nq (by omega))
    have HF := Lib.hid (fun x W (hW : Below w.heap.size w W) => rfind_any a n cap gm gl gd gb x W (hA.on hW) (by omega))
    have HIx := Lib.hid (fun i (hi : i < m) => ix_of hb hi)
    have HH := Lib.hid (fun x W (hW : Below w.heap.size w W) => rhas_any ak nk ck gs x W (hT.on hW) (by omega))
    have HD := Lib.hid (fun W => rwithin_any day 0 100000 W)
    have HA := Lib.hid hA
    have HL := Lib.hid hL
    have HLen := Lib.hid (thN_len (enB m lf) m)
    have hEI : (((thN (enB m lf) m).length : Nat) : Int) ≤ 1000 := by have := HLen.out; omega
    rw [hb] at HV
    clear hb hA hL hT h1 h2 h3 hn hm hcap hQ hnq HV2
    by_cases h100 : (100 : Int) < (nk : Int)
    · have HE : Hid (wkE true nk (brE nq lo (thN (enB m lf) m).length) day = 4) := Lib.hid (by unfold wkE; rw [if_pos rfl, if_pos (by omega)])
      go_enter Tryd.func26, Tryd.ntmps26
      go_wp2_with fail
      refine HV.out.mono ?_
      rintro e w2 ⟨rfl, hb2⟩
      have HB2 := Lib.hid hb2
      clear hb2 HV
      go_wp2
      go_returns
      exact ⟨.inl ⟨by rw [HE.out]; decide, by rw [HE.out]; rfl⟩, HB2.out⟩
    · by_cases hsz : nq = (thN (enB m lf) m).length
      · have hnn : ((nq : Int) != (((thN (enB m lf) m).length : Nat) : Int)) = false := by simp; omega
        by_cases hd : Btw day 0 100000
        · rw [decide_eq_true hd] at HD
          by_cases hld : LdOk nq lo
          · have e0 : brE nq lo (thN (enB m lf) m).length = 0 := by unfold brE; rw [if_pos hsz, if_pos hld]
            have HE : Hid (wkE true nk (brE nq lo (thN (enB m lf) m).length) day = 0) := Lib.hid (by unfold wkE; rw [if_pos rfl, if_neg (by omega), if_neg (by rw [e0]; simp), if_pos hd])
            rw [e0] at HLo
            have HSz := Lib.hid hsz
            have HLd := Lib.hid hld
            clear hsz hld hd e0
            go_enter Tryd.func26, Tryd.ntmps26
            go_wp2_with fail
            refine HV.out.mono ?_
            rintro e w2 ⟨rfl, hb2⟩
            have HB2 := Lib.hid hb2
            clear hb2 HV
            go_wp2_with fail
            refine (HEn.out _ HB2.out).mono ?_
            rintro e w3 ⟨v, rfl, hO, hb3⟩
            obtain ⟨ae, ce, rfl⟩ := ownsR_shape hO
            have HB3 := Lib.hid (HB2.out.trans (hb3.mono HB2.out.size))
            clear hO hb3 HEn
            go_wp2_with (go_at_call 50; refine (HD.out _).mono ?_; rintro e w9 ⟨rfl, rfl⟩)
            refine (HLo.out _ HB3.out).mono ?_
            rintro e w5 ⟨rfl, hb5⟩
            have HB5 := Lib.hid (HB3.out.trans (hb5.mono HB3.out.size))
            clear hb5 HLo
            go_wp2_with fail
            refine (HS.out _ HB5.out HSz.out HLd.out).mono ?_
            rintro e w4 ⟨⟨bb, rfl, hg⟩, hb4⟩
            have HB4 := Lib.hid (HB5.out.trans (hb4.mono HB5.out.size))
            have HG := Lib.hid (hg.congr (fun i hi => (HBR.out i hi HSz.out).symm))
            clear hb4 HS hg HBR
            obtain ⟨i0, hi0, hz0, hz1, hz2⟩ := info_parts intInfo7
            have HWk : Hid (∀ i, wkF n gm lm gl gd gb m lf day nk gs nq lo i = (decide (gd (ixO n gm lm i) < day) || (fdN gs nk (gb (ixO n gm lm i))).isSome || decide (gl (ixO n gm lm i) < boN lf m (owN lo (thN (enB m lf) m) nq) i))) := Lib.hid (fun i => rfl)
            generalize hwq : wkF n gm lm gl gd gb m lf day nk gs nq lo = wk at *
            have HWq := Lib.hid hwq
            clear hwq
            generalize boN lf m (owN lo (thN (enB m lf) m) nq) = bo at *
            go_wp2
            go_loopw [14, 15] (fun v i W => ∃ k : Nat, k ≤ m ∧ i = .int .i64 k ∧ Hid (W.ownsRow w4.heap.size 3 1 v (thN wk k).length (ivs (thN wk k))) ∧ Hid (Below w4.heap.size w4 W)) (fun _ i _ => m - (intOf i).toNat)
            case atStart => exact ⟨0, Nat.zero_le _, rfl, Lib.hid (World.ownsRow_nil _ _ _ _), Lib.hid (Below.refl _ _)⟩
            case round =>
              obtain ⟨k, hk, rfl, HO, HB⟩ := hrel
              by_cases hlt : k < m
              · have hlti : (k : Int) < (m : Int) := by omega
                have hBw := HB4.out.trans (HB.out.mono HB4.out.size)
                have HBw := Lib.hid hBw
                obtain ⟨bl, offl, rfl, hbl, l0, l1⟩ := (HL.out.on hBw) k hlt
                obtain ⟨hix, hixn⟩ := HIx.out k hlt
                have HFk := Lib.hid (HF.out (lm k) _ hBw)
                rw [hix] at HFk
                have HWk2 := Lib.hid (HWk.out k)
                have hixI : ((ixO n gm lm k : Nat) : Int) < (n : Int) := by omega
                have HS0 := Lib.hid (thN_succ wk k)
                have HThk := Lib.hid (thN_len wk k)
                generalize ixO n gm lm k = ix at *
                clear hix hBw
                go_wp2_with fail
                refine HFk.out.mono ?_
                rintro e w6 ⟨rfl, hb6⟩
                have hB6 := HB.out.trans (hb6.mono HB.out.size)
                have hBw6 := HBw.out.trans (hb6.mono HBw.out.size)
                have HO6 := Lib.hid (ownsR_stay HO.out hb6)
                obtain ⟨b, off, rfl, hbb, p0, p1, p2, p3⟩ := (HA.out.on hBw6) ix hixn
                obtain ⟨g0, _⟩ := (HG.out.on hB6).2 k hlt
                have hb67 := (Below.refl w6.heap.size w6).alloc (Nat.le_refl _) (.cells #[.string (tx (gm ix)), .int .i64 (gl ix), .int .i64 (gd ix), .string (tx (gb ix))] 62)
                have g0 := (hb67.cell (p := ⟨bb, k, none⟩) (World.block_lt_of_cell? w6 _ g0)).trans g0
                have q1 : (w6.alloc (.cells #[.string (tx (gm ix)), .int .i64 (gl ix), .int .i64 (gd ix), .string (tx (gb ix))] 62)).cell? ⟨w6.heap.size, 1, none⟩ = some (.int .i64 (gl ix)) := by simp [go_sem]
                have q2 : (w6.alloc (.cells #[.string (tx (gm ix)), .int .i64 (gl ix), .int .i64 (gd ix), .string (tx (gb ix))] 62)).cell? ⟨w6.heap.size, 2, none⟩ = some (.int .i64 (gd ix)) := by simp [go_sem]
                have q3 : (w6.alloc (.cells #[.string (tx (gm ix)), .int .i64 (gl ix), .int .i64 (gd ix), .string (tx (gb ix))] 62)).cell? ⟨w6.heap.size, 3, none⟩ = some (.string (tx (gb ix))) := by simp [go_sem]
                have s1 := World.block_lt_of_cell? _ _ g0
                have s2 := World.block_lt_of_cell? _ _ q1
                have HX := Lib.hid (hB6.alloc hB6.size (.cells #[.string (tx (gm ix)), .int .i64 (gl ix), .int .i64 (gd ix), .string (tx (gb ix))] 62))
                have HOX := Lib.hid (ownsR_stay HO6.out hb67)
                have hBwX := hBw6.trans (hb67.mono hBw6.size)
                have HHX := Lib.hid (fun W (hW : Below (w6.alloc (.cells #[.string (tx (gm ix)), .int .i64 (gl ix), .int .i64 (gd ix), .string (tx (gb ix))] 62)).heap.size (w6.alloc (.cells #[.string (tx (gm ix)), .int .i64 (gl ix), .int .i64 (gd ix), .string (tx (gb ix))] 62)) W) => HH.out (gb ix) W (hBwX.trans (hW.mono hBwX.size)))
                clear hb6 hB6 hBw6 HO6 hb67 hBwX HFk
                go_wp2_with fail
                generalize w6.alloc (.cells #[.string (tx (gm ix)), .int .i64 (gl ix), .int .i64 (gd ix), .string (tx (gb ix))] 62) = X at *
                generalize bo k = bk at *
                generalize (fdN gs nk (gb ix)).isSome = hs at *
                generalize gb ix = z3 at *
                generalize gl ix = z1 at *
                generalize gd ix = z2 at *
                by_cases hd1 : z2 < day
                · have hd1' : decide (z2 < day) = true := decide_eq_true hd1
                  have HS : Hid (thN wk (k + 1) = thN wk k ++ [k]) := Lib.hid (by rw [HS0.out, HWk2.out, hd1']; rfl)
                  clear HS0 HWk2
                  refine wp_region_after (by kernel_rfl) (by kernel_rfl) ?_; (repeat (first | go_big_quiet_step (((go_at_call 64; exact quiet_after (HHX.out _ (by (repeat' (first | (with_reducible exact Below.refl _ _) | (with_reducible assumption) | (with_reducible refine Below.alloc ?_ ?_ _) | (with_reducible refine Below.drew ?_) | (with_reducible refine below_drewN ?_ _) | (with_reducible refine Below.setCell ?_ ?_ _) | (with_reducible refine below_after ?_ ?_ _) | (with_reducible refine below_set ?_) | (with_reducible refine After.size_le _ ?_) | (with_reducible refine size_alloc_le ?_) | (with_reducible refine size_set_le ?_) | (with_reducible refine size_drewN_le ?_) | go_size))))))) | (refine wpQuiet_step (fun K hK => ?_); go_simp; first | (refine hK _ ?_; clear hK K) | (apply Exists.intro; refine ⟨fun x => ?_, hK _ ?_⟩; ((go_at_call 64; exact quiet_after (HHX.out _ (by (repeat' (first | (with_reducible exact Below.refl _ _) | (with_reducible assumption) | (with_reducible refine Below.alloc ?_ ?_ _) | (with_reducible refine Below.drew ?_) | (with_reducible refine below_drewN ?_ _) | (with_reducible refine Below.setCell ?_ ?_ _) | (with_reducible refine below_after ?_ ?_ _) | (with_reducible refine below_set ?_) | (with_reducible refine After.size_le _ ?_) | (with_reducible refine size_alloc_le ?_) | (with_reducible refine size_set_le ?_) | (with_reducible refine size_drewN_le ?_) | go_size)))))); clear hK K)))); refine wpQuiet_nil ?_
                  intro y
                  have HY := Lib.hid (HX.out.trans (y.out.mono HX.out.size))
                  have HOy := Lib.hid (ownsR_stay HOX.out y.out)
                  have hys := y.out.size
                  go_wp2_with (at_builtin; refine wpList_append_own _ rfl _ _ 30 rfl w4.heap.size 3 i0 (.int .i64 0) 1 8 Tryd.underlying30 hi0 hz0 hz1 hz2 rfl (by decide) _ _ _ rfl (HOy.out.alloc _) ⟨y.w.heap.size, 0, none⟩ 1 1 [.int .i64 (k : Nat)] rfl rfl (World.news_of_block (cs := #[.int .i64 (k : Nat)]) (t := 3) (fr := (0, 0)) (heap_alloc_new y.w _)) (by simp [Value.oneCell']) (by unfold maxLen; have := HThk.out; omega) (by have := HThk.out; omega) (by have := HY.out.size; simp; omega) ?_; intro v' w8 hown' hgrow _)
                  have HB8 := Lib.hid ((HY.out.alloc HY.out.size (.cells #[.int .i64 (k : Nat)] 3)).grown hgrow (by have := HY.out.size; simp; omega) (fun j e => (HOy.out.lt j e).1))
                  have HO8 := Lib.hid hown'
                  clear hown' hgrow
                  go_wp2
                  go_roundw
                  case rel => exact ⟨k + 1, by omega, by go_num, by rw [HS.out, ivs_snoc, List.length_append]; exact HO8, HB8⟩
                  case measure => simp [intOf]; omega
                · have hd1' : decide (z2 < day) = false := decide_eq_false hd1
                  cases hs
                  · by_cases hd3 : z1 < bk
                    · have hd3' : decide (z1 < bk) = true := decide_eq_true hd3
                      have HS : Hid (thN wk (k + 1) = thN wk k ++ [k]) := Lib.hid (by rw [HS0.out, HWk2.out, hd1', hd3']; rfl)
                      clear HS0 HWk2
                      refine wp_region_after (by kernel_rfl) (by kernel_rfl) ?_; (repeat (first | go_big_quiet_step (((go_at_call 64; exact quiet_after (HHX.out _ (by (repeat' (first | (with_reducible exact Below.refl _ _) | (with_reducible assumption) | (with_reducible refine Below.alloc ?_ ?_ _) | (with_reducible refine Below.drew ?_) | (with_reducible refine below_drewN ?_ _) | (with_reducible refine Below.setCell ?_ ?_ _) | (with_reducible refine below_after ?_ ?_ _) | (with_reducible refine below_set ?_) | (with_reducible refine After.size_le _ ?_) | (with_reducible refine size_alloc_le ?_) | (with_reducible refine size_set_le ?_) | (with_reducible refine size_drewN_le ?_) | go_size))))))) | (refine wpQuiet_step (fun K hK => ?_); go_simp; first | (refine hK _ ?_; clear hK K) | (apply Exists.intro; refine ⟨fun x => ?_, hK _ ?_⟩; ((go_at_call 64; exact quiet_after (HHX.out _ (by (repeat' (first | (with_reducible exact Below.refl _ _) | (with_reducible assumption) | (with_reducible refine Below.alloc ?_ ?_ _) | (with_reducible refine Below.drew ?_) | (with_reducible refine below_drewN ?_ _) | (with_reducible refine Below.setCell ?_ ?_ _) | (with_reducible refine below_after ?_ ?_ _) | (with_reducible refine below_set ?_) | (with_reducible refine After.size_le _ ?_) | (with_reducible refine size_alloc_le ?_) | (with_reducible refine size_set_le ?_) | (with_reducible refine size_drewN_le ?_) | go_size)))))); clear hK K)))); refine wpQuiet_nil ?_
                      intro y
                      have HY := Lib.hid (HX.out.trans (y.out.mono HX.out.size))
                      have HOy := Lib.hid (ownsR_stay HOX.out y.out)
                      have hys := y.out.size
                      go_wp2_with (at_builtin; refine wpList_append_own _ rfl _ _ 30 rfl w4.heap.size 3 i0 (.int .i64 0) 1 8 Tryd.underlying30 hi0 hz0 hz1 hz2 rfl (by decide) _ _ _ rfl (HOy.out.alloc _) ⟨y.w.heap.size, 0, none⟩ 1 1 [.int .i64 (k : Nat)] rfl rfl (World.news_of_block (cs := #[.int .i64 (k : Nat)]) (t := 3) (fr := (0, 0)) (heap_alloc_new y.w _)) (by simp [Value.oneCell']) (by unfold maxLen; have := HThk.out; omega) (by have := HThk.out; omega) (by have := HY.out.size; simp; omega) ?_; intro v' w8 hown' hgrow _)
                      have HB8 := Lib.hid ((HY.out.alloc HY.out.size (.cells #[.int .i64 (k : Nat)] 3)).grown hgrow (by have := HY.out.size; simp; omega) (fun j e => (HOy.out.lt j e).1))
                      have HO8 := Lib.hid hown'
                      clear hown' hgrow
                      go_wp2
                      go_roundw
                      case rel => exact ⟨k + 1, by omega, by go_num, by rw [HS.out, ivs_snoc, List.length_append]; exact HO8, HB8⟩
                      case measure => simp [intOf]; omega
                    · have hd3' : decide (z1 < bk) = false := decide_eq_false hd3
                      have HS : Hid (thN wk (k + 1) = thN wk k) := Lib.hid (by rw [HS0.out, HWk2.out, hd1', hd3']; rfl)
                      clear HS0 HWk2
                      refine wp_region_after (by kernel_rfl) (by kernel_rfl) ?_; (repeat (first | go_big_quiet_step (((go_at_call 64; exact quiet_after (HHX.out _ (by (repeat' (first | (with_reducible exact Below.refl _ _) | (with_reducible assumption) | (with_reducible refine Below.alloc ?_ ?_ _) | (with_reducible refine Below.drew ?_) | (with_reducible refine below_drewN ?_ _) | (with_reducible refine Below.setCell ?_ ?_ _) | (with_reducible refine below_after ?_ ?_ _) | (with_reducible refine below_set ?_) | (with_reducible refine After.size_le _ ?_) | (with_reducible refine size_alloc_le ?_) | (with_reducible refine size_set_le ?_) | (with_reducible refine size_drewN_le ?_) | go_size))))))) | (refine wpQuiet_step (fun K hK => ?_); go_simp; first | (refine hK _ ?_; clear hK K) | (apply Exists.intro; refine ⟨fun x => ?_, hK _ ?_⟩; ((go_at_call 64; exact quiet_after (HHX.out _ (by (repeat' (first | (with_reducible exact Below.refl _ _) | (with_reducible assumption) | (with_reducible refine Below.alloc ?_ ?_ _) | (with_reducible refine Below.drew ?_) | (with_reducible refine below_drewN ?_ _) | (with_reducible refine Below.setCell ?_ ?_ _) | (with_reducible refine below_after ?_ ?_ _) | (with_reducible refine below_set ?_) | (with_reducible refine After.size_le _ ?_) | (with_reducible refine size_alloc_le ?_) | (with_reducible refine size_set_le ?_) | (with_reducible refine size_drewN_le ?_) | go_size)))))); clear hK K)))); refine wpQuiet_nil ?_
                      intro y
                      have HY := Lib.hid (HX.out.trans (y.out.mono HX.out.size))
                      have HOy := Lib.hid (ownsR_stay HOX.out y.out)
                      go_wp2
                      go_roundw
                      case rel => exact ⟨k + 1, by omega, by go_num, by rw [HS.out]; exact HOy, HY⟩
                      case measure => simp [intOf]; omega
                  · have HS : Hid (thN wk (k + 1) = thN wk k ++ [k]) := Lib.hid (by rw [HS0.out, HWk2.out, hd1']; rfl)
                    clear HS0 HWk2
                    refine wp_region_after (by kernel_rfl) (by kernel_rfl) ?_; (repeat (first | go_big_quiet_step (((go_at_call 64; exact quiet_after (HHX.out _ (by (repeat' (first | (with_reducible exact Below.refl _ _) | (with_reducible assumption) | (with_reducible refine Below.alloc ?_ ?_ _) | (with_reducible refine Below.drew ?_) | (with_reducible refine below_drewN ?_ _) | (with_reducible refine Below.setCell ?_ ?_ _) | (with_reducible refine below_after ?_ ?_ _) | (with_reducible refine below_set ?_) | (with_reducible refine After.size_le _ ?_) | (with_reducible refine size_alloc_le ?_) | (with_reducible refine size_set_le ?_) | (with_reducible refine size_drewN_le ?_) | go_size))))))) | (refine wpQuiet_step (fun K hK => ?_); go_simp; first | (refine hK _ ?_; clear hK K) | (apply Exists.intro; refine ⟨fun x => ?_, hK _ ?_⟩; ((go_at_call 64; exact quiet_after (HHX.out _ (by (repeat' (first | (with_reducible exact Below.refl _ _) | (with_reducible assumption) | (with_reducible refine Below.alloc ?_ ?_ _) | (with_reducible refine Below.drew ?_) | (with_reducible refine below_drewN ?_ _) | (with_reducible refine Below.setCell ?_ ?_ _) | (with_reducible refine below_after ?_ ?_ _) | (with_reducible refine below_set ?_) | (with_reducible refine After.size_le _ ?_) | (with_reducible refine size_alloc_le ?_) | (with_reducible refine size_set_le ?_) | (with_reducible refine size_drewN_le ?_) | go_size)))))); clear hK K)))); refine wpQuiet_nil ?_
                    intro y
                    have HY := Lib.hid (HX.out.trans (y.out.mono HX.out.size))
                    have HOy := Lib.hid (ownsR_stay HOX.out y.out)
                    have hys := y.out.size
                    go_wp2_with (at_builtin; refine wpList_append_own _ rfl _ _ 30 rfl w4.heap.size 3 i0 (.int .i64 0) 1 8 Tryd.underlying30 hi0 hz0 hz1 hz2 rfl (by decide) _ _ _ rfl (HOy.out.alloc _) ⟨y.w.heap.size, 0, none⟩ 1 1 [.int .i64 (k : Nat)] rfl rfl (World.news_of_block (cs := #[.int .i64 (k : Nat)]) (t := 3) (fr := (0, 0)) (heap_alloc_new y.w _)) (by simp [Value.oneCell']) (by unfold maxLen; have := HThk.out; omega) (by have := HThk.out; omega) (by have := HY.out.size; simp; omega) ?_; intro v' w8 hown' hgrow _)
                    have HB8 := Lib.hid ((HY.out.alloc HY.out.size (.cells #[.int .i64 (k : Nat)] 3)).grown hgrow (by have := HY.out.size; simp; omega) (fun j e => (HOy.out.lt j e).1))
                    have HO8 := Lib.hid hown'
                    clear hown' hgrow
                    go_wp2
                    go_roundw
                    case rel => exact ⟨k + 1, by omega, by go_num, by rw [HS.out, ivs_snoc, List.length_append]; exact HO8, HB8⟩
                    case measure => simp [intOf]; omega
              · obtain rfl : k = m := by omega
                have HB6 := Lib.hid (HB4.out.trans (HB.out.mono HB4.out.size))
                have HN := Lib.hid (nat_of HO.out)
                go_wp2
                go_returns
                exact ⟨.inr ⟨HE.out, _, rfl, by rw [HWq.out]; exact HN.out⟩, HB6.out⟩
          · have e0 : brE nq lo (thN (enB m lf) m).length = 7 := by unfold brE; rw [if_pos hsz, if_neg hld]
            have HE : Hid (wkE true nk (brE nq lo (thN (enB m lf) m).length) day = 7) := Lib.hid (by unfold wkE; rw [if_pos rfl, if_neg (by omega), if_pos (by rw [e0]; simp), e0])
            rw [e0] at HLo
            clear hsz hld hd e0
            go_enter Tryd.func26, Tryd.ntmps26
            go_wp2_with fail
            refine HV.out.mono ?_
            rintro e w2 ⟨rfl, hb2⟩
            have HB2 := Lib.hid hb2
            clear hb2 HV
            go_wp2_with fail
            refine (HEn.out _ HB2.out).mono ?_
            rintro e w3 ⟨v, rfl, hO, hb3⟩
            obtain ⟨ae, ce, rfl⟩ := ownsR_shape hO
            have HB3 := Lib.hid (HB2.out.trans (hb3.mono HB2.out.size))
            clear hO hb3 HEn
            go_wp2_with (go_at_call 50; refine (HD.out _).mono ?_; rintro e w9 ⟨rfl, rfl⟩)
            refine (HLo.out _ HB3.out).mono ?_
            rintro e w5 ⟨rfl, hb5⟩
            have HB5 := Lib.hid (HB3.out.trans (hb5.mono HB3.out.size))
            clear hb5 HLo
            go_wp2
            go_returns
            exact ⟨.inl ⟨by rw [HE.out]; decide, by rw [HE.out]; rfl⟩, HB5.out⟩
        · rw [decide_eq_false hd] at HD
          have HE : Hid (wkE true nk (brE nq lo (thN (enB m lf) m).length) day = 7) := Lib.hid (by
            unfold wkE
            rw [if_pos rfl, if_neg (by omega)]
            by_cases hc : brE nq lo (thN (enB m lf) m).length ≠ 0
            · rw [if_pos hc]
              unfold brE at hc ⊢
              rw [if_pos hsz] at hc ⊢
              by_cases hl : LdOk nq lo
              · rw [if_pos hl] at hc; exact absurd rfl hc
              · rw [if_neg hl]
            · rw [if_neg hc, if_neg hd])
          clear hsz hd
          go_enter Tryd.func26, Tryd.ntmps26
          go_wp2_with fail
          refine HV.out.mono ?_
          rintro e w2 ⟨rfl, hb2⟩
          have HB2 := Lib.hid hb2
          clear hb2 HV
          go_wp2_with fail
          refine (HEn.out _ HB2.out).mono ?_
          rintro e w3 ⟨v, rfl, hO, hb3⟩
          obtain ⟨ae, ce, rfl⟩ := ownsR_shape hO
          have HB3 := Lib.hid (HB2.out.trans (hb3.mono HB2.out.size))
          clear hO hb3 HEn
          go_wp2_with (go_at_call 50; refine (HD.out _).mono ?_; rintro e w9 ⟨rfl, rfl⟩)
          go_returns
          exact ⟨.inl ⟨by rw [HE.out]; decide, by rw [HE.out]; rfl⟩, HB3.out⟩
      · have hnn : ((nq : Int) != (((thN (enB m lf) m).length : Nat) : Int)) = true := by simp; omega
        have HE : Hid (wkE true nk (brE nq lo (thN (enB m lf) m).length) day = 9) := Lib.hid (by
          have e0 : brE nq lo (thN (enB m lf) m).length = 9 := by unfold brE; rw [if_neg hsz]
          unfold wkE; rw [if_pos rfl, if_neg (by omega), if_pos (by rw [e0]; simp), e0])
        clear hsz
        go_enter Tryd.func26, Tryd.ntmps26
        go_wp2_with fail
        refine HV.out.mono ?_
        rintro e w2 ⟨rfl, hb2⟩
        have HB2 := Lib.hid hb2
        clear hb2 HV
        go_wp2_with fail
        refine (HEn.out _ HB2.out).mono ?_
        rintro e w3 ⟨v, rfl, hO, hb3⟩
        obtain ⟨ae, ce, rfl⟩ := ownsR_shape hO
        have HB3 := Lib.hid (HB2.out.trans (hb3.mono HB2.out.size))
        clear hO hb3 HEn
        go_wp2
        go_returns
        exact ⟨.inl ⟨by rw [HE.out]; decide, by rw [HE.out]; rfl⟩, HB3.out⟩
end
end Go.Proofs.YtmbjgaeofkikkaaDoor
