/- GearLess: the law's walk. -/
import Derived.Test.YtmbjgaeofkikkaaDoorGuu
import Derived.Test.YtmbjgaeofkikkaaDoorGmy
import Derived.Test.YtmbjgaeofkikkaaDoorGaw
namespace Go.Proofs.YtmbjgaeofkikkaaDoor
open Go.RowKit
attribute [local go_sem] After.cell After.frozen After.lt After.le After.ne After.ne' After.set_eq After.size_set After.lt_add tx_size tx_toList

theorem after_og5 {W W' : World} (h : Below W.heap.size W W') : ∃ y : After W, W' = y.w := ⟨⟨W', h⟩, rfl⟩
/-- The loads with what k places of another list take away. -/
def lsN (lo ls : Nat → Int) (k : Nat) (i : Nat) : Int := if i < k ∧ 0 ≤ ls i ∧ ls i ≤ lo i then lo i - ls i else lo i
theorem lsN_bd {lo ls : Nat → Int} {k i : Nat} (h : 0 ≤ lo i) : 0 ≤ lsN lo ls k i ∧ lsN lo ls k i ≤ lo i := by
  unfold lsN; split <;> omega
theorem lsN_yes {lo ls : Nat → Int} {k : Nat} (h : 0 ≤ ls k ∧ ls k ≤ lo k) (i : Nat) : lsN lo ls (k + 1) i = if i = k then lo k - ls k else lsN lo ls k i := by
  unfold lsN
  by_cases e : i = k
  · subst e; rw [if_pos ⟨by omega, h⟩, if_pos rfl]
  · rw [if_neg e]
    by_cases h2 : i < k ∧ 0 ≤ ls i ∧ ls i ≤ lo i
    · rw [if_pos h2, if_pos ⟨by omega, h2.2⟩]
    · rw [if_neg h2, if_neg (fun q => h2 ⟨by omega, q.2⟩)]
theorem lsN_no {lo ls : Nat → Int} {k : Nat} (h : ¬ (0 ≤ ls k ∧ ls k ≤ lo k)) (i : Nat) : lsN lo ls (k + 1) i = lsN lo ls k i := by
  unfold lsN
  by_cases h2 : i < k ∧ 0 ≤ ls i ∧ ls i ≤ lo i
  · rw [if_pos h2, if_pos ⟨by omega, h2.2⟩]
  · rw [if_neg h2, if_neg (fun q => h2 ⟨by
      by_cases e : i = k
      · subst e; exact absurd q.2 h
      · omega, q.2⟩)]
theorem lsN_at (lo ls : Nat → Int) (k : Nat) : lsN lo ls k k = lo k := by unfold lsN; rw [if_neg (fun q => by omega)]
set_option maxRecDepth 100000 in
set_option maxHeartbeats 4000000 in
theorem gearLess_any (a : Option Addr) (n cap : Nat) (gm : Nat → List UInt8) (gl gd : Nat → Int) (gb : Nat → List UInt8) (al : Option Addr) (m capl : Nat) (lm : Nat → List UInt8) (lf : Nat → Int) (ak : Option Addr) (nk ck : Nat) (gs : Nat → List UInt8) (day : Int) (aq : Option Addr) (nq cq : Nat) (lo : Nat → Int) (earlier : Int) (az : Option Addr) (nl cs : Nat) (ls : Nat → Int) (w : World) (hA : ItAt w a n gm gl gd gb) (hL : LkAt w al m lm lf) (hT : TAt w ak nk gs) (hQ : GAt w aq nq lo) (hZ : GAt w az nl ls) (hn : n ≤ 9223372036854775807) (hm : m ≤ 9223372036854775807) (hnq : nq ≤ 9223372036854775807) (hnk : nk ≤ 9223372036854775807) (hnl : nl ≤ 9223372036854775807) (hcap : m ≤ capl) (h1 : Sht n gm) (h2 : Sht n gb) (h3 : Sht m lm) :
    Calls Tryd.prog 7 #[.slice a n cap, .slice al m capl, .slice ak nk ck, .int .i64 day, .slice aq nq cq, .int .i64 earlier, .slice az nl cs] w fun e w' => e = .returned (.bool true) ∧ Below w.heap.size w w' := by
  have HM := Lib.hid (fun W (hW : Below w.heap.size w W) => many_any a n cap gm gl gd gb al m capl lm lf W (hA.on hW) (hL.on hW) hn hm)
  have PM0 := Lib.hid (fun day' aq' cq' lo' W (hW : Below w.heap.size w W) (hq' : GAt W aq' nq lo') hn hm hq hk => may_any a n cap gm gl gd gb al m capl lm lf ak nk ck gs day' aq' nq cq' lo' W (hA.on hW) (hL.on hW) (hT.on hW) hq' hn hm hcap h1 h2 h3 hq hk)
  have PU := Lib.hid (fun W (hW : Below w.heap.size w W) hn hm => until_any a n cap gm gl gd gb al m capl lm lf W (hA.on hW) (hL.on hW) hn hm hcap h1 h2 h3)
  have HQ := Lib.hid hQ
  have HZ := Lib.hid hZ
  have hqI : ((nq : Nat) : Int) ≤ 9223372036854775807 := by omega
  have hkI : ((nk : Nat) : Int) ≤ 9223372036854775807 := by omega
  have hlI : ((nl : Nat) : Int) ≤ 9223372036854775807 := by omega
  clear hA hL hT hQ hZ h1 h2 h3 hn hm hcap hnq hnk hnl
  go_enter Tryd.func7, Tryd.ntmps7
  go_wp2_with fail
  refine calls_after (awake_any _) ?_
  intro x1
  go_wp2_with fail
  refine (HM.out _ (by (repeat' (first | (with_reducible exact Below.refl _ _) | (with_reducible assumption) | (with_reducible refine Below.alloc ?_ ?_ _) | (with_reducible refine Below.drew ?_) | (with_reducible refine below_drewN ?_ _) | (with_reducible refine Below.setCell ?_ ?_ _) | (with_reducible refine below_after ?_ ?_ _) | (with_reducible refine below_set ?_) | (with_reducible refine After.size_le _ ?_) | (with_reducible refine size_alloc_le ?_) | (with_reducible refine size_set_le ?_) | (with_reducible refine size_drewN_le ?_) | go_size)))).mono ?_
  rintro e w2 ⟨⟨b, rfl, hbb⟩, hb2⟩
  obtain ⟨x2, rfl⟩ := after_og5 (x1.out.trans (hb2.mono x1.out.size))
  have HBB := Lib.hid hbb
  clear hb2 hbb HM
  cases b
  · have hnm := HBB.out rfl
    have hn1 : n ≤ 1000 := by omega
    have hm1 : m ≤ 1000 := by omega
    have Hnm := Lib.hid (And.intro hn1 hm1)
    clear hnm hn1 hm1 HBB
    by_cases h100 : (100 : Int) < (nk : Int)
    · go_wp2
      go_ret
      exact ⟨rfl, by (repeat' (first | (with_reducible exact Below.refl _ _) | (with_reducible assumption) | (with_reducible refine Below.alloc ?_ ?_ _) | (with_reducible refine Below.drew ?_) | (with_reducible refine below_drewN ?_ _) | (with_reducible refine Below.setCell ?_ ?_ _) | (with_reducible refine below_after ?_ ?_ _) | (with_reducible refine below_set ?_) | (with_reducible refine After.size_le _ ?_) | (with_reducible refine size_alloc_le ?_) | (with_reducible refine size_set_le ?_) | (with_reducible refine size_drewN_le ?_) | go_size))⟩
    · by_cases h40 : (40 : Int) < (nq : Int)
      · go_wp2
        go_ret
        exact ⟨rfl, by (repeat' (first | (with_reducible exact Below.refl _ _) | (with_reducible assumption) | (with_reducible refine Below.alloc ?_ ?_ _) | (with_reducible refine Below.drew ?_) | (with_reducible refine below_drewN ?_ _) | (with_reducible refine Below.setCell ?_ ?_ _) | (with_reducible refine below_after ?_ ?_ _) | (with_reducible refine below_set ?_) | (with_reducible refine After.size_le _ ?_) | (with_reducible refine size_alloc_le ?_) | (with_reducible refine size_set_le ?_) | (with_reducible refine size_drewN_le ?_) | go_size))⟩
      · by_cases h41 : (40 : Int) < (nl : Int)
        · go_wp2
          go_ret
          exact ⟨rfl, by (repeat' (first | (with_reducible exact Below.refl _ _) | (with_reducible assumption) | (with_reducible refine Below.alloc ?_ ?_ _) | (with_reducible refine Below.drew ?_) | (with_reducible refine below_drewN ?_ _) | (with_reducible refine Below.setCell ?_ ?_ _) | (with_reducible refine below_after ?_ ?_ _) | (with_reducible refine below_set ?_) | (with_reducible refine After.size_le _ ?_) | (with_reducible refine size_alloc_le ?_) | (with_reducible refine size_set_le ?_) | (with_reducible refine size_drewN_le ?_) | go_size))⟩
        · have Hqk := Lib.hid (show nq ≤ 1000 ∧ nk ≤ 1000 by omega)
          have PM := Lib.hid (fun day' aq' cq' lo' W (hW : Below w.heap.size w W) (hq' : GAt W aq' nq lo') => PM0.out day' aq' cq' lo' W hW hq' Hnm.out.1 Hnm.out.2 Hqk.out.1 Hqk.out.2)
          have P1 := Lib.hid (fun W (hW : Below w.heap.size w W) => PM.out day aq cq lo W hW (HQ.out.on hW))
          clear PM0
          by_cases hc : wkE (vgB n gm gl gd gb && vrB n m gm lm lf) nk (brE nq lo (thN (enB m lf) m).length) day = 0
          · have HLess := Lib.hid (fun day' lo' => less_ok (n := n) (m := m) (gm := gm) (lm := lm) (gl := gl) (gd := gd) (gb := gb) (lf := lf) (nk := nk) (nq := nq) (gs := gs) (day := day) (lo := lo) hc (day' := day') (lo' := lo'))
            have HDay := Lib.hid (less_day (n := n) (m := m) (gm := gm) (lm := lm) (gl := gl) (gd := gd) (gb := gb) (lf := lf) (nk := nk) (nq := nq) (gs := gs) (day := day) (lo := lo) hc)
            obtain ⟨z1, z2, z3, z4⟩ := wkE_zero hc
            obtain ⟨z5, z6⟩ := brE_zero z3
            have hel := end_last z1
            have HUb : Hid (Btw (unT (fun i => gd (ixO n gm lm i)) m) 0 100000) := Lib.hid (unT_bd m (fun i hi => (dd_of z1 hi).1))
            have HLd := Lib.hid z6
            have hnq1 : 1 ≤ nq := by omega
            have Hd := Lib.hid z4
            rw [hc] at P1 HLess HDay
            rw [z1] at PU
            unfold unN erB at PU
            clear hc z1 z2 z3 z4 z5 z6 hel
            cases hr : myB 0 (wkF n gm lm gl gd gb m lf day nk gs nq lo) m
            · rw [hr] at P1
              clear HLess HDay hr
              generalize unT (fun i => gd (ixO n gm lm i)) m = ut at *
              go_wp2_with fail
              refine calls_after2 (P1.out _ (by (repeat' (first | (with_reducible exact Below.refl _ _) | (with_reducible assumption) | (with_reducible refine Below.alloc ?_ ?_ _) | (with_reducible refine Below.drew ?_) | (with_reducible refine below_drewN ?_ _) | (with_reducible refine Below.setCell ?_ ?_ _) | (with_reducible refine below_after ?_ ?_ _) | (with_reducible refine below_set ?_) | (with_reducible refine After.size_le _ ?_) | (with_reducible refine size_alloc_le ?_) | (with_reducible refine size_set_le ?_) | (with_reducible refine size_drewN_le ?_) | go_size)))) ?_
              intro x3
              go_wp2_with fail
              refine calls_after2 (PU.out _ (by (repeat' (first | (with_reducible exact Below.refl _ _) | (with_reducible assumption) | (with_reducible refine Below.alloc ?_ ?_ _) | (with_reducible refine Below.drew ?_) | (with_reducible refine below_drewN ?_ _) | (with_reducible refine Below.setCell ?_ ?_ _) | (with_reducible refine below_after ?_ ?_ _) | (with_reducible refine below_set ?_) | (with_reducible refine After.size_le _ ?_) | (with_reducible refine size_alloc_le ?_) | (with_reducible refine size_set_le ?_) | (with_reducible refine size_drewN_le ?_) | go_size))) Hnm.out.1 Hnm.out.2) ?_
              intro x4
              go_wp2
              go_ret
              exact ⟨rfl, by (repeat' (first | (with_reducible exact Below.refl _ _) | (with_reducible assumption) | (with_reducible refine Below.alloc ?_ ?_ _) | (with_reducible refine Below.drew ?_) | (with_reducible refine below_drewN ?_ _) | (with_reducible refine Below.setCell ?_ ?_ _) | (with_reducible refine below_after ?_ ?_ _) | (with_reducible refine below_set ?_) | (with_reducible refine After.size_le _ ?_) | (with_reducible refine size_alloc_le ?_) | (with_reducible refine size_set_le ?_) | (with_reducible refine size_drewN_le ?_) | go_size))⟩
            · rw [hr] at P1
              have HLess2 := Lib.hid (fun day' lo' => HLess.out day' lo' hr)
              have HDay2 := Lib.hid (HDay.out hr)
              clear hr HLess HDay
              have hdu : day ≤ unT (fun i => gd (ixO n gm lm i)) m := unT_ge Hd.out.2 m HDay2.out
              go_wp2_with fail
              refine calls_after2 (P1.out _ (by (repeat' (first | (with_reducible exact Below.refl _ _) | (with_reducible assumption) | (with_reducible refine Below.alloc ?_ ?_ _) | (with_reducible refine Below.drew ?_) | (with_reducible refine below_drewN ?_ _) | (with_reducible refine Below.setCell ?_ ?_ _) | (with_reducible refine below_after ?_ ?_ _) | (with_reducible refine below_set ?_) | (with_reducible refine After.size_le _ ?_) | (with_reducible refine size_alloc_le ?_) | (with_reducible refine size_set_le ?_) | (with_reducible refine size_drewN_le ?_) | go_size)))) ?_
              intro x3
              clear P1
              go_wp2_with fail
              refine calls_after2 (PU.out _ (by (repeat' (first | (with_reducible exact Below.refl _ _) | (with_reducible assumption) | (with_reducible refine Below.alloc ?_ ?_ _) | (with_reducible refine Below.drew ?_) | (with_reducible refine below_drewN ?_ _) | (with_reducible refine Below.setCell ?_ ?_ _) | (with_reducible refine below_after ?_ ?_ _) | (with_reducible refine below_set ?_) | (with_reducible refine After.size_le _ ?_) | (with_reducible refine size_alloc_le ?_) | (with_reducible refine size_set_le ?_) | (with_reducible refine size_drewN_le ?_) | go_size))) Hnm.out.1 Hnm.out.2) ?_
              intro x4
              clear PU
              by_cases he1 : earlier < 0
              · go_wp2
                go_ret
                exact ⟨rfl, by (repeat' (first | (with_reducible exact Below.refl _ _) | (with_reducible assumption) | (with_reducible refine Below.alloc ?_ ?_ _) | (with_reducible refine Below.drew ?_) | (with_reducible refine below_drewN ?_ _) | (with_reducible refine Below.setCell ?_ ?_ _) | (with_reducible refine below_after ?_ ?_ _) | (with_reducible refine below_set ?_) | (with_reducible refine After.size_le _ ?_) | (with_reducible refine size_alloc_le ?_) | (with_reducible refine size_set_le ?_) | (with_reducible refine size_drewN_le ?_) | go_size))⟩
              · by_cases he2 : day < earlier
                · go_wp2
                  go_ret
                  exact ⟨rfl, by (repeat' (first | (with_reducible exact Below.refl _ _) | (with_reducible assumption) | (with_reducible refine Below.alloc ?_ ?_ _) | (with_reducible refine Below.drew ?_) | (with_reducible refine below_drewN ?_ _) | (with_reducible refine Below.setCell ?_ ?_ _) | (with_reducible refine below_after ?_ ?_ _) | (with_reducible refine below_set ?_) | (with_reducible refine After.size_le _ ?_) | (with_reducible refine size_alloc_le ?_) | (with_reducible refine size_set_le ?_) | (with_reducible refine size_drewN_le ?_) | go_size))⟩
                · have hB4 : Below w.heap.size w x4.w := by (repeat' (first | (with_reducible exact Below.refl _ _) | (with_reducible assumption) | (with_reducible refine Below.alloc ?_ ?_ _) | (with_reducible refine Below.drew ?_) | (with_reducible refine below_drewN ?_ _) | (with_reducible refine Below.setCell ?_ ?_ _) | (with_reducible refine below_after ?_ ?_ _) | (with_reducible refine below_set ?_) | (with_reducible refine After.size_le _ ?_) | (with_reducible refine size_alloc_le ?_) | (with_reducible refine size_set_le ?_) | (with_reducible refine size_drewN_le ?_) | go_size))
                  obtain ⟨bq, offq, rfl, hbq, q0⟩ := HQ.out 0 (by omega)
                  have HC := Lib.hid (gxs_cells ((HQ.out.on hB4).on ((Below.refl _ x4.w).alloc (Nat.le_refl _) (.cells #[] 3))))
                  obtain ⟨i0, hi0, hz0, hz1, hz2⟩ := info_parts intInfo7
                  have hs4 := hB4.size
                  have HB4 := Lib.hid hB4
                  clear hB4 q0
                  go_wp2_with (at_builtin; refine wpList_append_own _ rfl _ _ 30 rfl x4.w.heap.size 3 i0 (.int .i64 0) 1 8 Tryd.underlying30 hi0 hz0 hz1 hz2 rfl (by decide) _ 0 [] rfl (World.ownsRow_lit x4.w #[] 0 (Nat.le_refl _) (by unfold maxLen; omega) rfl) ⟨bq, offq, none⟩ nq cq (gxs lo nq) rfl (by rw [gxs_len, Nat.mul_one]) HC.out (gxs_one lo nq) (by unfold maxLen; omega) (by omega) (by simp) ?_; intro v' w5 hown' hgrow _)
                  have hb5 : Below w.heap.size w w5 := (HB4.out.alloc HB4.out.size (.cells #[] 3)).grown hgrow (by simp; omega) (fun j e => by cases e; exact hs4)
                  simp only [Nat.zero_add, List.nil_append] at hown'
                  obtain ⟨B, cB, rfl, hBB, hG5⟩ := grw_of hown' hnq1
                  have HG5 := Lib.hid hG5
                  have HB5 := Lib.hid hb5
                  clear hown' hgrow hb5 hG5 HB4 HC
                  go_wp2
                  go_loopw [20] (fun i W => ∃ k : Nat, (k ≤ nq ∧ k ≤ nl) ∧ i = .int .i64 k ∧ Hid (GRw W B nq (lsN lo ls k)) ∧ Hid (Below w.heap.size w W)) (fun i _ => nq - (intOf i).toNat)
                  case atStart => exact ⟨0, ⟨Nat.zero_le _, Nat.zero_le _⟩, rfl, Lib.hid (HG5.out.congr (fun i _ => by unfold lsN; rw [if_neg (fun q => by omega)])), HB5⟩
                  case round =>
                    obtain ⟨k, hk, rfl, HG, HBw⟩ := hrel
                    by_cases hlt : k < nq
                    · have hlti : (k : Int) < (nq : Int) := by omega
                      by_cases hlt2 : k < nl
                      · have hlti2 : (k : Int) < (nl : Int) := by omega
                        obtain ⟨bs, offs, rfl, hbs, s0⟩ := (HZ.out.on HBw.out) k hlt2
                        obtain ⟨o0, o1⟩ := HG.out.2 k hlt
                        rw [lsN_at] at o0
                        have hlk := HLd.out k hlt
                        have HYes := Lib.hid (fun h => lsN_yes (lo := lo) (ls := ls) (k := k) h)
                        have HNo := Lib.hid (fun h => lsN_no (lo := lo) (ls := ls) (k := k) h)
                        have FINY := Lib.hid (fun (h : 0 ≤ ls k ∧ ls k ≤ lo k) (W : World) (hW : Below wr.heap.size wr W) => (show GRw (W.setCell ⟨B, k, none⟩ (.int .i64 (lo k - ls k))).drew B nq (lsN lo ls (k + 1)) ∧ Below w.heap.size w (W.setCell ⟨B, k, none⟩ (.int .i64 (lo k - ls k))).drew from ⟨(HG.out.on hW).set (lo k - ls k) (fun i _ => HYes.out h i), ((HBw.out.trans (hW.mono HBw.out.size)).setCell (by dsimp only; omega) _).drew⟩))
                        have FINN := Lib.hid (fun (h : ¬ (0 ≤ ls k ∧ ls k ≤ lo k)) (W : World) (hW : Below wr.heap.size wr W) => (show GRw W B nq (lsN lo ls (k + 1)) ∧ Below w.heap.size w W from ⟨(HG.out.on hW).congr (fun i _ => (HNo.out h i).symm), HBw.out.trans (hW.mono HBw.out.size)⟩))
                        have hBl := HG.out.1
                        generalize lo k = lok at *
                        generalize ls k = lsk at *
                        clear HYes HNo
                        by_cases hs1 : 0 ≤ lsk
                        · have hs1' : decide (0 ≤ lsk) = true := decide_eq_true hs1
                          by_cases hs2 : lsk ≤ lok
                          · have hs2' : decide (lsk ≤ lok) = true := decide_eq_true hs2
                            have hw : IntKind.i64.wrap (lok - lsk) = lok - lsk := by rw [IntKind.wrap_i64]; omega
                            have FY := Lib.hid (FINY.out ⟨hs1, hs2⟩)
                            clear FINY FINN
                            go_wp2_with fail
                            refine wp_region_after (by kernel_rfl) (by kernel_rfl) ?_; (repeat (first | go_big_quiet_step ((fail)) | (refine wpQuiet_step (fun K hK => ?_); go_simp; first | (refine hK _ ?_; clear hK K) | (apply Exists.intro; refine ⟨fun x => ?_, hK _ ?_⟩; (fail); clear hK K)))); refine wpQuiet_nil ?_
                            intro y
                            have s0 := (y.out.cell (p := ⟨bs, offs + k, none⟩) (by dsimp only; omega)).trans s0
                            have o0 := (y.out.cell (p := ⟨B, k, none⟩) (by dsimp only; omega)).trans o0
                            have o1 := (y.out.frozen (p := ⟨B, k, none⟩) (by dsimp only; omega)).trans o1
                            obtain ⟨F1, F2⟩ := FY.out y.w y.out
                            have HF1 := Lib.hid F1
                            have HF2 := Lib.hid F2
                            clear F1 F2 FY
                            generalize y.w = Y at *
                            go_wp2
                            go_region
                            all_goals
                              go_wp2
                              go_roundw
                              case rel => exact ⟨k + 1, ⟨by omega, by omega⟩, by go_num, HF1, HF2⟩
                              case measure => simp [intOf]; omega
                          · have hs2' : decide (lsk ≤ lok) = false := decide_eq_false hs2
                            have FN := Lib.hid (FINN.out (fun q => hs2 q.2))
                            clear FINY FINN
                            go_wp2_with fail
                            refine wp_region_after (by kernel_rfl) (by kernel_rfl) ?_; (repeat (first | go_big_quiet_step ((fail)) | (refine wpQuiet_step (fun K hK => ?_); go_simp; first | (refine hK _ ?_; clear hK K) | (apply Exists.intro; refine ⟨fun x => ?_, hK _ ?_⟩; (fail); clear hK K)))); refine wpQuiet_nil ?_
                            intro y
                            obtain ⟨F1, F2⟩ := FN.out y.w y.out
                            have HF1 := Lib.hid F1
                            have HF2 := Lib.hid F2
                            clear F1 F2 FN
                            go_wp2
                            go_roundw
                            case rel => exact ⟨k + 1, ⟨by omega, by omega⟩, by go_num, HF1, HF2⟩
                            case measure => simp [intOf]; omega
                        · have hs1' : decide (0 ≤ lsk) = false := decide_eq_false hs1
                          have FN := Lib.hid (FINN.out (fun q => hs1 q.1))
                          clear FINY FINN
                          go_wp2_with fail
                          refine wp_region_after (by kernel_rfl) (by kernel_rfl) ?_; (repeat (first | go_big_quiet_step ((fail)) | (refine wpQuiet_step (fun K hK => ?_); go_simp; first | (refine hK _ ?_; clear hK K) | (apply Exists.intro; refine ⟨fun x => ?_, hK _ ?_⟩; (fail); clear hK K)))); refine wpQuiet_nil ?_
                          intro y
                          obtain ⟨F1, F2⟩ := FN.out y.w y.out
                          have HF1 := Lib.hid F1
                          have HF2 := Lib.hid F2
                          clear F1 F2 FN
                          go_wp2
                          go_roundw
                          case rel => exact ⟨k + 1, ⟨by omega, by omega⟩, by go_num, HF1, HF2⟩
                          case measure => simp [intOf]; omega
                      · obtain rfl : k = nl := by omega
                        obtain ⟨m1, m2⟩ := HLess2.out earlier (lsN lo ls k) ⟨by omega, by have := Hd.out.2; omega⟩ (fun i hi => by have := HDay2.out i hi; omega) (fun i hi => lsN_bd (HLd.out i hi).1)
                        obtain ⟨m3, m4⟩ := HLess2.out (unT (fun i => gd (ixO n gm lm i)) m) (lsN lo ls k) HUb.out (fun i hi => unT_le m i hi) (fun i hi => lsN_bd (HLd.out i hi).1)
                        rw [m1] at m2
                        rw [m3] at m4
                        have HM1 := Lib.hid (PM.out earlier (some ⟨B, 0, none⟩) cB (lsN lo ls k) wr (by have := HBw.out; exact this) HG.out.at)
                        have HM2 := Lib.hid (fun W (hW : Below wr.heap.size wr W) => PM.out (unT (fun i => gd (ixO n gm lm i)) m) (some ⟨B, 0, none⟩) cB (lsN lo ls k) W (HBw.out.trans (hW.mono HBw.out.size)) (HG.out.at.on hW))
                        rw [m1, m2] at HM1
                        rw [m3, m4] at HM2
                        generalize unT (fun i => gd (ixO n gm lm i)) m = ut at *
                        clear m1 m2 m3 m4 HLess2 HG HDay2
                        go_wp2_with fail
                        refine calls_after HM1.out ?_
                        intro y1
                        go_wp2_with fail
                        refine calls_after2 (HM2.out _ y1.out) ?_
                        intro y2
                        have HBf := Lib.hid (HBw.out.trans (y2.out.mono HBw.out.size))
                        go_wp2
                        go_ret
                        exact ⟨rfl, HBf.out⟩
                    · obtain rfl : k = nq := by omega
                      obtain ⟨m1, m2⟩ := HLess2.out earlier (lsN lo ls k) ⟨by omega, by have := Hd.out.2; omega⟩ (fun i hi => by have := HDay2.out i hi; omega) (fun i hi => lsN_bd (HLd.out i hi).1)
                      obtain ⟨m3, m4⟩ := HLess2.out (unT (fun i => gd (ixO n gm lm i)) m) (lsN lo ls k) HUb.out (fun i hi => unT_le m i hi) (fun i hi => lsN_bd (HLd.out i hi).1)
                      rw [m1] at m2
                      rw [m3] at m4
                      have HM1 := Lib.hid (PM.out earlier (some ⟨B, 0, none⟩) cB (lsN lo ls k) wr (by have := HBw.out; exact this) HG.out.at)
                      have HM2 := Lib.hid (fun W (hW : Below wr.heap.size wr W) => PM.out (unT (fun i => gd (ixO n gm lm i)) m) (some ⟨B, 0, none⟩) cB (lsN lo ls k) W (HBw.out.trans (hW.mono HBw.out.size)) (HG.out.at.on hW))
                      rw [m1, m2] at HM1
                      rw [m3, m4] at HM2
                      generalize unT (fun i => gd (ixO n gm lm i)) m = ut at *
                      clear m1 m2 m3 m4 HLess2 HG HDay2
                      go_wp2_with fail
                      refine calls_after HM1.out ?_
                      intro y1
                      go_wp2_with fail
                      refine calls_after2 (HM2.out _ y1.out) ?_
                      intro y2
                      have HBf := Lib.hid (HBw.out.trans (y2.out.mono HBw.out.size))
                      go_wp2
                      go_ret
                      exact ⟨rfl, HBf.out⟩
          · generalize wkE (vgB n gm gl gd gb && vrB n m gm lm lf) nk (brE nq lo (thN (enB m lf) m).length) day = c at *
            have hne : (c != 0) = true := by simp [hc]
            clear hc PU PM
            go_wp2_with fail
            refine calls_after2 (P1.out _ (by (repeat' (first | (with_reducible exact Below.refl _ _) | (with_reducible assumption) | (with_reducible refine Below.alloc ?_ ?_ _) | (with_reducible refine Below.drew ?_) | (with_reducible refine below_drewN ?_ _) | (with_reducible refine Below.setCell ?_ ?_ _) | (with_reducible refine below_after ?_ ?_ _) | (with_reducible refine below_set ?_) | (with_reducible refine After.size_le _ ?_) | (with_reducible refine size_alloc_le ?_) | (with_reducible refine size_set_le ?_) | (with_reducible refine size_drewN_le ?_) | go_size)))) ?_
            intro x3
            go_wp2
            go_ret
            exact ⟨rfl, by (repeat' (first | (with_reducible exact Below.refl _ _) | (with_reducible assumption) | (with_reducible refine Below.alloc ?_ ?_ _) | (with_reducible refine Below.drew ?_) | (with_reducible refine below_drewN ?_ _) | (with_reducible refine Below.setCell ?_ ?_ _) | (with_reducible refine below_after ?_ ?_ _) | (with_reducible refine below_set ?_) | (with_reducible refine After.size_le _ ?_) | (with_reducible refine size_alloc_le ?_) | (with_reducible refine size_set_le ?_) | (with_reducible refine size_drewN_le ?_) | go_size))⟩
  · go_wp2
    go_ret
    exact ⟨rfl, by (repeat' (first | (with_reducible exact Below.refl _ _) | (with_reducible assumption) | (with_reducible refine Below.alloc ?_ ?_ _) | (with_reducible refine Below.drew ?_) | (with_reducible refine below_drewN ?_ _) | (with_reducible refine Below.setCell ?_ ?_ _) | (with_reducible refine below_after ?_ ?_ _) | (with_reducible refine below_set ?_) | (with_reducible refine After.size_le _ ?_) | (with_reducible refine size_alloc_le ?_) | (with_reducible refine size_set_le ?_) | (with_reducible refine size_drewN_le ?_) | go_size))⟩
end Go.Proofs.YtmbjgaeofkikkaaDoor
