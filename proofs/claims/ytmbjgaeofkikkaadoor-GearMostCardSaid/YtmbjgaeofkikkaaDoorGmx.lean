/- Shares of the reference. -/
import Derived.Test.YtmbjgaeofkikkaaDoorGgm
import Derived.Test.YtmbjgaeofkikkaaDoorGms
namespace Go.Proofs.YtmbjgaeofkikkaaDoor
open Go.RowKit
attribute [local go_sem] After.cell After.frozen After.lt After.le After.ne After.ne' After.set_eq After.size_set After.lt_add tx_size tx_toList

theorem zat_grw {W : World} {b n cap : Nat} {g : Nat → Int} (h : GRw W b n g) : ZAt W (.slice (some ⟨b, 0, none⟩) n cap) ((List.range n).map g) := by
  have e : ((List.range n).map g).length = n := by simp
  refine ⟨some ⟨b, 0, none⟩, cap, by rw [e], fun i hi => ⟨b, 0, rfl, h.1, ?_⟩⟩
  rw [e] at hi
  rw [Nat.zero_add, (h.2 i hi).1, List.getD_eq_getElem?_getD, List.getElem?_map, List.getElem?_range hi]
  rfl
theorem shL_list (n : Nat) (gm lm : Nat → List UInt8) (gl : Nat → Int) (m : Nat) (lf : Nat → Int) : shL n gm lm gl m lf = (List.range (thN (enB m lf) m).length).map (ssN lf m (fun i => gl (ixO n gm lm i)) (thN (enB m lf) m)) := by
  have h := shN_list lf m (fun i => gl (ixO n gm lm i)) (thN (enB m lf) m) (thN (enB m lf) m).length (Nat.le_refl _)
  rw [List.take_length] at h
  exact h
section
variable (a : Option Addr) (n cap : Nat) (gm : Nat → List UInt8) (gl gd : Nat → Int) (gb : Nat → List UInt8) (al : Option Addr) (m capl : Nat) (lm : Nat → List UInt8) (lf : Nat → Int) (w : World) (hA : ItAt w a n gm gl gd gb) (hL : LkAt w al m lm lf) (hn : n ≤ 1000) (hm : m ≤ 1000) (hcap : m ≤ capl) (h1 : Sht n gm) (h2 : Sht n gb) (h3 : Sht m lm)
include hA hL hn hm hcap h1 h2 h3
set_option maxRecDepth 100000 in
set_option maxHeartbeats 4000000 in
theorem rshares_say : Calls Tryd.prog 34 #[.slice a n cap, .slice al m capl] w fun e w' => ZnR (vgB n gm gl gd gb && vrB n m gm lm lf) (shL n gm lm gl m lf) w' e ∧ Below w.heap.size w w' := by
  have HV := Lib.hid (rvalidRig_say a n cap gm gl gd gb al m capl lm lf w hA hL hn hm hcap h1 h2 h3)
  have hmI : (m : Int) ≤ 1000 := by omega
  have hnI : (n : Int) ≤ 1000 := by omega
  cases hb : vgB n gm gl gd gb && vrB n m gm lm lf
  · rw [hb] at HV
    clear hb hA hL h1 h2 h3 hn hm hcap
    go_enter Tryd.func34, Tryd.ntmps34
    go_wp2_with fail
    refine HV.out.mono ?_
    rintro e w2 ⟨rfl, hb2⟩
    have HB2 := Lib.hid hb2
    clear hb2 HV
    go_wp2
    go_returns
    exact ⟨rfl, HB2.out⟩
  · have hv := vr_lt (n := n) (m := m) (gm := gm) (lm := lm) (lf := lf) (by simp at hb; exact hb.2)
    have hld := ld_of hb
    have HEn := Lib.hid (fun W (hW : Below w.heap.size w W) => rends_any al m capl lm lf W (hL.on hW) hm)
    have HF := Lib.hid (fun x W (hW : Below w.heap.size w W) => rfind_any a n cap gm gl gd gb x W (hA.on hW) (by omega))
    have HIx := Lib.hid (fun i (hi : i < m) => ix_of hb hi)
    have HA := Lib.hid hA
    have HL := Lib.hid hL
    have HVl := Lib.hid hv
    have hlen := thN_len (enB m lf) m
    have HMem := Lib.hid (th_mem (p := enB m lf) (m := m))
    have HShL := Lib.hid (shL_list n gm lm gl m lf)
    have HSs := Lib.hid (fun k (hk : k < (thN (enB m lf) m).length) => ss_bd hv hld th_mem hk)
    have HLf := Lib.hid (fun k (hk : k ≤ (thN (enB m lf) m).length) i => lf_rb hv (ld := fun i => gl (ixO n gm lm i)) (E := thN (enB m lf) m) i k hk)
    have HLo := Lib.hid (fun k (hk : k ≤ (thN (enB m lf) m).length) => lf_ok hv hld th_mem hk)
    have HSd : Hid (∀ k, ssN lf m (fun i => gl (ixO n gm lm i)) (thN (enB m lf) m) k = mnU (lfN lf m (fun i => gl (ixO n gm lm i)) (thN (enB m lf) m) k) (lfN lf m (fun i => gl (ixO n gm lm i)) (thN (enB m lf) m) k ((thN (enB m lf) m).getD k 0)) (upO lf m ((thN (enB m lf) m).getD k 0 : Nat))) := Lib.hid (fun k => rfl)
    have HBo := Lib.hid (fun W (hW : Below w.heap.size w W) aq cq lo hQ hld => rborne_any al m capl lm lf aq (thN (enB m lf) m).length cq lo W (hL.on hW) hQ hm hv rfl hld)
    have HLoAll : Hid (∀ k, k ≤ (thN (enB m lf) m).length → LdOk (thN (enB m lf) m).length (fun j => if j < k then ssN lf m (fun i => gl (ixO n gm lm i)) (thN (enB m lf) m) j else 0)) := Lib.hid (fun k hk j hj => by
      by_cases h : j < k
      · show 0 ≤ (if j < k then ssN lf m (fun i => gl (ixO n gm lm i)) (thN (enB m lf) m) j else 0) ∧ (if j < k then ssN lf m (fun i => gl (ixO n gm lm i)) (thN (enB m lf) m) j else 0) ≤ 1000000
        rw [if_pos h]; exact ss_bd hv hld th_mem hj
      · show 0 ≤ (if j < k then ssN lf m (fun i => gl (ixO n gm lm i)) (thN (enB m lf) m) j else 0) ∧ (if j < k then ssN lf m (fun i => gl (ixO n gm lm i)) (thN (enB m lf) m) j else 0) ≤ 1000000
        rw [if_neg h]; exact ⟨by omega, by omega⟩)
    have HRb : Hid (∀ k, k ≤ (thN (enB m lf) m).length → ∀ i, rbN lf m (fun j => if j < k then ssN lf m (fun i => gl (ixO n gm lm i)) (thN (enB m lf) m) j else 0) (thN (enB m lf) m) (thN (enB m lf) m).length i = rbN lf m (ssN lf m (fun i => gl (ixO n gm lm i)) (thN (enB m lf) m)) (thN (enB m lf) m) k i) := Lib.hid (fun k hk i => by
      have e : (thN (enB m lf) m).length = k + ((thN (enB m lf) m).length - k) := by omega
      rw [e, rb_rest i k _ (fun j hj => by rw [if_neg (by omega)])]
      exact rb_congr i k (fun j hj => by rw [if_pos hj]))
    rw [hb] at HV
    clear hb hA hL h1 h2 h3 hn hcap hv hld
    generalize hEq : thN (enB m lf) m = E at *
    generalize hSq : ssN lf m (fun i => gl (ixO n gm lm i)) E = ss at *
    have HEq := Lib.hid (And.intro hEq hSq)
    clear hEq hSq
    obtain ⟨i0, hi, hz0, hz1, hz2⟩ := info_parts intInfo7
    have hEI : ((E.length : Nat) : Int) ≤ 1000 := by omega
    have hmk := fun w' => run_make (P := Tryd.prog) w' 30 3 i0 _ Tryd.underlying30 hi hz0 .i64 .i64 (E.length : Int) (E.length : Int) (by omega) (by omega) (by rw [hz2]; omega) (by omega)
    rw [hz1] at hmk
    simp only [Int.toNat_natCast] at hmk
    go_enter Tryd.func34, Tryd.ntmps34
    go_wp2_with fail
    refine HV.out.mono ?_
    rintro e w2 ⟨rfl, hb2⟩
    have HB2 := Lib.hid hb2
    clear hb2 HV
    go_wp2_with fail
    refine (HEn.out _ HB2.out).mono ?_
    rintro e w3 ⟨v, rfl, hO, hb3⟩
    obtain ⟨ae, ce, rfl, hen⟩ := nat_of hO
    have hB3 := HB2.out.trans (hb3.mono HB2.out.size)
    have HEN := Lib.hid hen
    have G0 := grw_made w3 E.length (by omega)
    have b34 : Below w3.heap.size w3 (w3.alloc (.cells (madeCells #[.int .i64 0] E.length) 3)) := (Below.refl _ w3).alloc (Nat.le_refl _) _
    have hB4 := hB3.trans (b34.mono hB3.size)
    have es : (w3.alloc (.cells (madeCells #[.int .i64 0] E.length) 3)).heap.size = w3.heap.size + 1 := by simp
    have HB4 := Lib.hid hB4
    have HE4 : Hid (∀ i, i < E.length → ∃ b off, ae = some ⟨b, off, none⟩ ∧ b < w3.heap.size ∧ (w3.alloc (.cells (madeCells #[.int .i64 0] E.length) 3)).cell? ⟨b, off + i, none⟩ = some (.int .i64 (E.getD i 0 : Nat))) := Lib.hid (fun i hi => by
      obtain ⟨b, off, e1, e2, e3⟩ := HEN.out i hi
      exact ⟨b, off, e1, e2, (b34.cell (p := ⟨b, off + i, none⟩) e2).trans e3⟩)
    have hs3 := hB3.size
    have HG4 := Lib.hid G0
    clear hO hb3 hen hB3 G0 b34 hB4 HEN
    go_wp2
    clear hmk
    generalize w3.alloc (.cells (madeCells #[.int .i64 0] E.length) 3) = W4 at *
    go_loopw [8] (fun i W => ∃ k : Nat, k ≤ E.length ∧ i = .int .i64 k ∧ Hid (GRw W w3.heap.size E.length (fun j => if j < k then ss j else 0)) ∧ Hid (Fr (fun j => j = w3.heap.size) W4 W)) (fun i _ => E.length - (intOf i).toNat)
    case atStart => exact ⟨0, Nat.zero_le _, rfl, Lib.hid (HG4.out.congr (fun j _ => by simp)), Lib.hid (Fr.refl _)⟩
    case round =>
      obtain ⟨k, hk, rfl, HG, HFr⟩ := hrel
      have HBW := Lib.hid (HB4.out.trans (HFr.out.below HB4.out.size (fun j hj => by omega)))
      by_cases hlt : k < E.length
      · have hlti : (k : Int) < ((E.length : Nat) : Int) := by omega
        obtain ⟨be, offe, rfl, hbe, e0⟩ := HE4.out k hlt
        have e0 := HFr.out.cell (p := ⟨be, offe + k, none⟩) (by dsimp only; omega) e0
        have hem : E.getD k 0 < m := HMem.out _ (by rw [List.getD_eq_getElem?_getD, List.getElem?_eq_getElem hlt]; exact List.getElem_mem _)
        have HCb := Lib.hid (HBo.out _ HBW.out (some ⟨w3.heap.size, 0, none⟩) E.length _ HG.out.at (HLoAll.out k hk))
        have hlok := HLo.out k hk
        have HSk := Lib.hid (HSd.out k)
        have HLk := Lib.hid (HLf.out k hk)
        have HRk := Lib.hid (HRb.out k hk)
        go_wp2_with fail
        refine HCb.out.mono ?_
        rintro e w5 ⟨⟨bb, rfl, hg⟩, hb5⟩
        have HBb := Lib.hid (show GRw w5 bb m (fun i => rbN lf m ss E k i) from hg.congr (fun i hi => HRk.out i))
        have hG5 := HG.out.on hb5
        have e0 := (hb5.cell (p := ⟨be, offe + k, none⟩) (World.block_lt_of_cell? wr _ e0)).trans e0
        have HG5 := Lib.hid hG5
        have HF5 := Lib.hid (HFr.out.call hb5)
        have hB5 := HBW.out.trans (hb5.mono HBW.out.size)
        have HB5 := Lib.hid hB5
        have HLoK := Lib.hid hlok
        have HTop : Hid (mnU (lfN lf m (fun i => gl (ixO n gm lm i)) E k) (lfN lf m (fun i => gl (ixO n gm lm i)) E k (E.getD k 0)) (upO lf m (E.getD k 0 : Nat)) = mnU (lfN lf m (fun i => gl (ixO n gm lm i)) E k) 1000000 (upO lf m (E.getD k 0 : Nat))) := Lib.hid (by
          rw [upO_step HVl.out hem, mnU_top (hlok _ hem).2])
        clear hb5 hg hG5 hB5 HCb HRk hlok HG HFr HBW
        generalize E.getD k 0 = en at *
        generalize hlfq : lfN lf m (fun i => gl (ixO n gm lm i)) E k = left at *
        have henI : (en : Int) < (m : Int) := by omega
        clear hlfq
        go_wp2
        go_loopw [10, 11] (fun s i W => ∃ (x : Int) (pre : List Nat) (d : Nat), i = .int .i64 x ∧ s = .int .i64 (mnU left 1000000 pre) ∧ Hid (upO lf m (en : Nat) = pre ++ upL lf d x) ∧ (-1 ≤ x ∧ x < m ∧ x < d) ∧ Hid (Below w5.heap.size w5 W)) (fun _ i _ => (intOf i + 1).toNat)
        case atStart => exact ⟨_, [], m + 1, rfl, rfl, Lib.hid rfl, ⟨by omega, by omega, by omega⟩, Lib.hid (Below.refl _ _)⟩
        case round =>
          obtain ⟨x, pre, d, rfl, rfl, HP, hx, HB⟩ := hrel
          by_cases h0 : 0 ≤ x
          · obtain ⟨y, rfl⟩ : ∃ y : Nat, x = (y : Int) := ⟨x.toNat, by omega⟩
            obtain ⟨d, rfl⟩ : ∃ d', d = d' + 1 := ⟨d - 1, by omega⟩
            have hym : y < m := by omega
            have hyv := HVl.out y hym
            have HP2 : Hid (upO lf m (en : Nat) = (pre ++ [y]) ++ upL lf d (lf y)) := Lib.hid (by rw [HP.out, upL_step]; simp)
            have HS : Hid (mnU left 1000000 (pre ++ [y]) = min (mnU left 1000000 pre) (left y)) := Lib.hid (mnU_snoc _ _ _ _)
            have hBx := HB5.out.trans (HB.out.mono HB5.out.size)
            obtain ⟨bl, offl, rfl, hbl, l0, l1⟩ := (HL.out.on hBx) y hym
            obtain ⟨hix, hixn⟩ := HIx.out y hym
            have HFk := Lib.hid (fun W (hW : Below wr.heap.size wr W) => HF.out (lm y) W (hBx.trans (hW.mono hBx.size)))
            rw [hix] at HFk
            obtain ⟨b, off, rfl, hbb, p0, p1, p2, p3⟩ := (HA.out.on hBx) (ixO n gm lm y) hixn
            obtain ⟨g0, _⟩ := (HBb.out.on HB.out).2 y hym
            change wr.cell? ⟨bb, y, none⟩ = some (.int .i64 (rbN lf m ss E k y)) at g0
            have hly := HLoK.out y hym
            have hleft := HLk.out y
            have hixI : ((ixO n gm lm y : Nat) : Int) < (n : Int) := by omega
            have hgb := World.block_lt_of_cell? wr _ g0
            clear hix HP p0 p2 p3 hBx
            generalize mnU left 1000000 pre = s at *
            generalize hgl : gl (ixO n gm lm y) = g at *
            generalize ixO n gm lm y = ix at *
            obtain ⟨rb, hrb⟩ : ∃ rb, rbN lf m ss E k y = rb := ⟨_, rfl⟩
            rw [hrb] at g0 hleft
            generalize hly' : left y = ly at *
            have HLy := Lib.hid hly'
            clear hly' hgl hrb
            have hw : IntKind.i64.wrap (g - rb) = ly := by rw [IntKind.wrap_i64]; omega
            clear hleft
            go_wp2
            refine wp_region_after (by kernel_rfl) (by kernel_rfl) ?_; (repeat (first | go_big_quiet_step (((go_at_call 48; exact quiet_after (HFk.out _ (by (repeat' (first | (with_reducible exact Below.refl _ _) | (with_reducible assumption) | (with_reducible refine Below.alloc ?_ ?_ _) | (with_reducible refine Below.drew ?_) | (with_reducible refine below_drewN ?_ _) | (with_reducible refine Below.setCell ?_ ?_ _) | (with_reducible refine below_after ?_ ?_ _) | (with_reducible refine below_set ?_) | (with_reducible refine After.size_le _ ?_) | (with_reducible refine size_alloc_le ?_) | (with_reducible refine size_set_le ?_) | (with_reducible refine size_drewN_le ?_) | go_size))))))) | (refine wpQuiet_step (fun K hK => ?_); go_simp; first | (refine hK _ ?_; clear hK K) | (apply Exists.intro; refine ⟨fun x => ?_, hK _ ?_⟩; ((go_at_call 48; exact quiet_after (HFk.out _ (by (repeat' (first | (with_reducible exact Below.refl _ _) | (with_reducible assumption) | (with_reducible refine Below.alloc ?_ ?_ _) | (with_reducible refine Below.drew ?_) | (with_reducible refine below_drewN ?_ _) | (with_reducible refine Below.setCell ?_ ?_ _) | (with_reducible refine below_after ?_ ?_ _) | (with_reducible refine below_set ?_) | (with_reducible refine After.size_le _ ?_) | (with_reducible refine size_alloc_le ?_) | (with_reducible refine size_set_le ?_) | (with_reducible refine size_drewN_le ?_) | go_size)))))); clear hK K)))); refine wpQuiet_nil ?_
            intro yy
            have HBy := Lib.hid (HB.out.trans (yy.out.mono HB.out.size))
            by_cases hsl : ly < s
            · go_wp2
              go_roundw
              case rel => exact ⟨lf y, pre ++ [y], d, by go_num, by rw [HS.out]; congr 1; omega, HP2, ⟨by omega, by omega, by omega⟩, HBy⟩
              case measure => simp [intOf]; omega
            · go_wp2
              go_roundw
              case rel => exact ⟨lf y, pre ++ [y], d, by go_num, by rw [HS.out]; congr 1; omega, HP2, ⟨by omega, by omega, by omega⟩, HBy⟩
              case measure => simp [intOf]; omega
          · have hx1 : x = -1 := by omega
            have HU : Hid (upO lf m (en : Nat) = pre) := Lib.hid (by rw [HP.out, upL_end lf (by omega), List.append_nil])
            subst hx1
            have HMt := Lib.hid (show ss k = mnU left 1000000 pre from by rw [HSk.out, ← HU.out]; exact HTop.out)
            have HGw := Lib.hid (HG5.out.on HB.out)
            have HFw := Lib.hid (HF5.out.call HB.out)
            have hwb : w3.heap.size < wr.heap.size := HGw.out.1
            have FIN := Lib.hid (show GRw (wr.setCell ⟨w3.heap.size, k, none⟩ (.int .i64 (mnU left 1000000 pre))) w3.heap.size E.length (fun j => if j < k + 1 then ss j else 0) ∧ Fr (fun j => j = w3.heap.size) W4 (wr.setCell ⟨w3.heap.size, k, none⟩ (.int .i64 (mnU left 1000000 pre))) from ⟨HGw.out.set _ (fun i hi => by
              by_cases hik : i = k
              · subst hik; rw [if_pos rfl, if_pos (by omega), HMt.out]
              · rw [if_neg hik]
                by_cases h1 : i < k
                · rw [if_pos h1, if_pos (by omega)]
                · rw [if_neg h1, if_neg (by omega)]), (Fr.setCell (M := fun j => j = w3.heap.size) HFw.out (p := ⟨w3.heap.size, k, none⟩) (.inl rfl) _)⟩)
            obtain ⟨d0, d1⟩ := HGw.out.2 k hlt
            go_wp2
            go_roundw
            case rel => exact ⟨k + 1, by omega, by go_num, Lib.hid FIN.out.1, Lib.hid FIN.out.2⟩
            case measure => simp [intOf]; omega
      · obtain rfl : k = E.length := by omega
        have HZ := Lib.hid (zat_grw (cap := E.length) (HG.out.congr (g' := ss) (fun j hj => by rw [if_pos hj])))
        go_wp2
        go_returns
        exact ⟨⟨_, rfl, by rw [HShL.out]; exact HZ.out⟩, HBW.out⟩
end
end Go.Proofs.YtmbjgaeofkikkaaDoor
