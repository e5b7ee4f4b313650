/- GearMost: weighs, and what it says of the shares. -/
import Derived.Test.YtmbjgaeofkikkaaDoorGgm
import Derived.Test.YtmbjgaeofkikkaaDoorGmx
namespace Go.Proofs.YtmbjgaeofkikkaaDoor
open Go.RowKit
attribute [local go_sem] After.cell After.frozen After.lt After.le After.ne After.ne' After.set_eq After.size_set After.lt_add tx_size tx_toList

theorem fi_of {n m : Nat} {gm : Nat → List UInt8} {gl gd : Nat → Int} {gb lm : Nat → List UInt8} {lf : Nat → Int} (h : (vgB n gm gl gd gb && vrB n m gm lm lf) = true) {i : Nat} (hi : i < m) : fiN n gm gl gd gb (lm i) = ((ixO n gm lm i : Nat) : Int) ∧ fiE n gm gl gd gb (lm i) = 0 ∧ ixO n gm lm i < n := by
  simp only [Bool.and_eq_true] at h
  have h1 := ((vrB_of h.2).2 i hi).1
  obtain ⟨j, hj⟩ := Option.ne_none_iff_exists'.1 h1
  have h2 := (fdN_some.1 hj).1
  have e : ixO n gm lm i = j := by unfold ixO; rw [hj]; rfl
  rw [e]
  refine ⟨?_, ?_, h2⟩
  · unfold fiN; rw [if_pos h.1, hj]
  · unfold fiE; rw [if_pos h.1, hj]
/-- Loads with which no link bears more than it can. -/
def WgF (m nq : Nat) (lf lo ld : Nat → Int) : Prop := nq = (thN (enB m lf) m).length ∧ LdOk nq lo ∧ ∀ i, i < m → boN lf m (owN lo (thN (enB m lf) m) nq) i ≤ ld i
/-- What weighs answers. -/
def WgA (m nq : Nat) (lf lo ld : Nat → Int) (e : Ending) : Prop :=
  (¬ WgF m nq lf lo ld ∧ e = .returned (.tuple #[.int .i64 0, .bool false])) ∨ (WgF m nq lf lo ld ∧ e = .returned (.tuple #[.int .i64 (boN lf m (owN lo (thN (enB m lf) m) nq) 0), .bool true]))
set_option maxRecDepth 100000 in
set_option maxHeartbeats 2000000 in
theorem weighs_any (a : Option Addr) (n cap : Nat) (gm : Nat → List UInt8) (gl gd : Nat → Int) (gb : Nat → List UInt8) (al : Option Addr) (m capl : Nat) (lm : Nat → List UInt8) (lf : Nat → Int) (aq : Option Addr) (nq cq : Nat) (lo : Nat → Int) (w : World) (hA : ItAt w a n gm gl gd gb) (hL : LkAt w al m lm lf) (hQ : GAt w aq nq lo) (hn : n ≤ 1000) (hm : m ≤ 1000) (hcap : m ≤ capl) (h1 : Sht n gm) (h2 : Sht n gb) (h3 : Sht m lm) (hnq : nq ≤ 1000) (hb : (vgB n gm gl gd gb && vrB n m gm lm lf) = true) :
    Calls Tryd.prog 35 #[.slice a n cap, .slice al m capl, .slice aq nq cq] w fun e w' => WgA m nq lf lo (fun i => gl (ixO n gm lm i)) e ∧ Below w.heap.size w w' := by
  have HB := Lib.hid (borne_say a n cap gm gl gd gb al m capl lm lf aq nq cq lo w hA hL hQ hn hm hcap h1 h2 h3 hnq)
  have HF := Lib.hid (fun i (hi : i < m) W (hW : Below w.heap.size w W) => find_say a n cap gm gl gd gb W (hA.on hW) hn h1 h2 (lm i) (h3 i hi))
  have HIx := Lib.hid (fun i (hi : i < m) => fi_of hb hi)
  have hm1 := m_of hb
  have hmI : (m : Int) ≤ 1000 := by omega
  have hnI : (n : Int) ≤ 1000 := by omega
  have HA := Lib.hid hA
  have HL := Lib.hid hL
  have HZ : Hid (boE (vgB n gm gl gd gb && vrB n m gm lm lf) nq lo (thN (enB m lf) m).length ≠ 0 → ¬ WgF m nq lf lo (fun i => gl (ixO n gm lm i))) := Lib.hid (fun h q => by
    apply h
    rw [hb]
    unfold boE brE
    rw [if_pos rfl, if_pos q.1, if_pos q.2.1])
  clear hA hL hQ h1 h2 h3 hn hm hcap hnq hb
  generalize boE (vgB n gm gl gd gb && vrB n m gm lm lf) nq lo (thN (enB m lf) m).length = c at *
  generalize hE : thN (enB m lf) m = E at *
  generalize hld : (fun i => gl (ixO n gm lm i)) = ld at *
  have HLd : Hid (∀ i, ld i = gl (ixO n gm lm i)) := Lib.hid (fun i => by rw [← hld])
  clear hld
  go_enter Tryd.func35, Tryd.ntmps35
  go_wp2_with fail
  refine HB.out.mono ?_
  rintro e w2 ⟨hr, hb2⟩
  have HB2 := Lib.hid hb2
  clear hb2 HB
  rcases hr with ⟨hc, rfl⟩ | ⟨rfl, -, hq, hl, a', c', rfl, hG⟩
  · have HN := Lib.hid (HZ.out hc)
    have hc' : (c == 0) = false := by simp [hc]
    clear HZ
    go_wp2
    go_returns
    exact ⟨.inl ⟨HN.out, rfl⟩, HB2.out⟩
  · have HG := Lib.hid hG
    have HQ := Lib.hid (And.intro hq hl)
    clear hG hq hl HZ
    rw [hE] at HG HQ
    generalize hbo : boN lf m (owN lo E nq) = bo at *
    have HW : Hid ((WgF m nq lf lo ld ↔ ∀ i, i < m → bo i ≤ ld i) ∧ boN lf m (owN lo (thN (enB m lf) m) nq) 0 = bo 0) := Lib.hid (by
      unfold WgF
      rw [hE, hbo]
      exact ⟨⟨fun q => q.2.2, fun q => ⟨HQ.out.1, HQ.out.2, q⟩⟩, rfl⟩)
    clear hbo hE
    go_wp2
    go_loopw [10] (fun i W => ∃ k : Nat, k ≤ m ∧ i = .int .i64 k ∧ Hid (∀ j, j < k → bo j ≤ ld j) ∧ Hid (Below w2.heap.size w2 W)) (fun i _ => m - (intOf i).toNat)
    case atStart => exact ⟨0, Nat.zero_le _, rfl, Lib.hid (fun j hj => by omega), Lib.hid (Below.refl _ _)⟩
    case round =>
      obtain ⟨k, hk, rfl, HJ, HBw⟩ := hrel
      have HB3 := Lib.hid (HB2.out.trans (HBw.out.mono HB2.out.size))
      by_cases hlt : k < m
      · have hlti : (k : Int) < (m : Int) := by omega
        obtain ⟨bl, offl, rfl, hbl, l0, l1⟩ := (HL.out.on HB3.out) k hlt
        obtain ⟨hix, hie, hixn⟩ := HIx.out k hlt
        have HFk := Lib.hid (HF.out k hlt _ HB3.out)
        rw [hix, hie] at HFk
        have hldk := HLd.out k
        have hixI : ((ixO n gm lm k : Nat) : Int) < (n : Int) := by omega
        have HBo : Hid ((¬ bo k ≤ ld k → ¬ WgF m nq lf lo ld) ∧ (bo k ≤ ld k → ∀ j, j < k + 1 → bo j ≤ ld j)) := Lib.hid ⟨fun h q => h (HW.out.1.1 q k hlt), fun h j hj => by
          by_cases e : j = k
          · subst e; exact h
          · exact HJ.out j (by omega)⟩
        clear hix hie
        generalize ixO n gm lm k = ix at *
        go_wp2_with fail
        refine HFk.out.mono ?_
        rintro e w3 ⟨rfl, hb3⟩
        have HB4 := Lib.hid (HBw.out.trans (hb3.mono HBw.out.size))
        have HB5 := Lib.hid (HB3.out.trans (hb3.mono HB3.out.size))
        obtain ⟨b, off, rfl, hbb, p0, p1, p2, p3⟩ := (HA.out.on HB5.out) ix hixn
        obtain ⟨bo', offo, rfl, hbo', z0⟩ := (HG.out.on HB4.out) k hlt
        rw [← hldk] at p1
        clear hb3 HFk p0 p2 p3 hldk
        generalize bo k = bk at *
        generalize ld k = dk at *
        have hbx := World.block_lt_of_cell? w3 _ z0
        by_cases hbd : dk < bk
        · have hbd' : decide (dk < bk) = true := decide_eq_true hbd
          have HN := Lib.hid (HBo.out.1 (by omega))
          clear HBo
          go_wp2_with fail
          refine wp_region_after (by kernel_rfl) (by kernel_rfl) ?_; (repeat (first | go_big_quiet_step ((fail)) | (refine wpQuiet_step (fun K hK => ?_); go_simp; first | (refine hK _ ?_; clear hK K) | (apply Exists.intro; refine ⟨fun x => ?_, hK _ ?_⟩; (fail); clear hK K)))); refine wpQuiet_nil ?_
          intro y
          have HB6 := Lib.hid (HB5.out.trans (y.out.mono HB5.out.size))
          go_wp2
          go_returns
          exact ⟨.inl ⟨HN.out, rfl⟩, HB6.out⟩
        · have hbd' : decide (dk < bk) = false := decide_eq_false hbd
          have HN := Lib.hid (HBo.out.2 (by omega))
          clear HBo
          go_wp2_with fail
          refine wp_region_after (by kernel_rfl) (by kernel_rfl) ?_; (repeat (first | go_big_quiet_step ((fail)) | (refine wpQuiet_step (fun K hK => ?_); go_simp; first | (refine hK _ ?_; clear hK K) | (apply Exists.intro; refine ⟨fun x => ?_, hK _ ?_⟩; (fail); clear hK K)))); refine wpQuiet_nil ?_
          intro y
          have HB6 := Lib.hid (HB4.out.trans (y.out.mono HB4.out.size))
          go_wp2
          go_roundw
          case rel => exact ⟨k + 1, by omega, by go_num, HN, HB6⟩
          case measure => simp [intOf]; omega
      · obtain rfl : k = m := by omega
        obtain ⟨bo', offo, rfl, hbo', z0⟩ := (HG.out.on HBw.out) 0 (by omega)
        have HN := Lib.hid (HW.out.1.2 HJ.out)
        have hm0 : (0 : Int) < (k : Int) := by omega
        rw [Nat.add_zero] at z0
        have HE0 := Lib.hid HW.out.2
        go_wp2
        go_returns
        exact ⟨.inr ⟨HN.out, by rw [HE0.out]; rfl⟩, HB3.out⟩
/-- P7.3: what the shares do. -/
theorem shares_facts {n m : Nat} {gm : Nat → List UInt8} {gl gd : Nat → Int} {gb lm : Nat → List UInt8} {lf : Nat → Int} (h : (vgB n gm gl gd gb && vrB n m gm lm lf) = true) :
    WgF m (shL n gm lm gl m lf).length lf (fun i => (shL n gm lm gl m lf).getD i 0) (fun i => gl (ixO n gm lm i)) ∧ boN lf m (owN (fun i => (shL n gm lm gl m lf).getD i 0) (thN (enB m lf) m) (shL n gm lm gl m lf).length) 0 = (shL n gm lm gl m lf).sum ∧ (shL n gm lm gl m lf).sum = gtN (fun i => gl (ixO n gm lm i)) lf m m 0 := by
  have hvr : vrB n m gm lm lf = true := by simp at h; exact h.2
  have hv := vr_lt hvr
  have hm1 := m_of h
  have hld := ld_of h
  have hE := th_mem (p := enB m lf) (m := m)
  have hN := thN_nodup (enB m lf) m
  have hr := vr_pos hvr
  have e1 := shL_list n gm lm gl m lf
  rw [e1]
  generalize (fun i => gl (ixO n gm lm i)) = ld at *
  have el : ((List.range (thN (enB m lf) m).length).map (ssN lf m ld (thN (enB m lf) m))).length = (thN (enB m lf) m).length := by simp
  have eg : ∀ i, i < (thN (enB m lf) m).length → ((List.range (thN (enB m lf) m).length).map (ssN lf m ld (thN (enB m lf) m))).getD i 0 = ssN lf m ld (thN (enB m lf) m) i := fun i hi => by
    rw [List.getD_eq_getElem?_getD, List.getElem?_map, List.getElem?_range hi]
    rfl
  have eb : ∀ i, i < m → boN lf m (owN (fun i => ((List.range (thN (enB m lf) m).length).map (ssN lf m ld (thN (enB m lf) m))).getD i 0) (thN (enB m lf) m) (thN (enB m lf) m).length) i = rbN lf m (ssN lf m ld (thN (enB m lf) m)) (thN (enB m lf) m) (thN (enB m lf) m).length i := fun i hi => by
    rw [bo_rb hv hN hE hi _ (Nat.le_refl _)]
    exact rb_congr i _ (fun j hj => eg j hj)
  have es : ((List.range (thN (enB m lf) m).length).map (ssN lf m ld (thN (enB m lf) m))).sum = rbN lf m (ssN lf m ld (thN (enB m lf) m)) (thN (enB m lf) m) (thN (enB m lf) m).length 0 := by
    rw [sum_range, rb_zero hv hr hE _ (Nat.le_refl _)]
  have ef : ∀ i, i < m → rbN lf m (ssN lf m ld (thN (enB m lf) m)) (thN (enB m lf) m) (thN (enB m lf) m).length i ≤ ld i := fun i hi => by
    have h1 := lf_rb hv (ld := ld) (E := thN (enB m lf) m) i _ (Nat.le_refl _)
    have h2 := (lf_ok hv hld hE (Nat.le_refl _) i hi).1
    omega
  rw [el]
  refine ⟨⟨rfl, fun i hi => by dsimp only; rw [eg i hi]; exact ss_bd hv hld hE hi, fun i hi => by rw [eb i hi]; exact ef i hi⟩, by rw [eb 0 hm1, es], ?_⟩
  rw [es]
  apply Int.le_antisymm
  · have h1 := bo_le_gt hv (ld := ld) (lo := ssN lf m ld (thN (enB m lf) m)) (Nat.le_refl _) (fun i hi => by rw [bo_rb hv hN hE hi _ (Nat.le_refl _)]; exact ef i hi) m 0 hm1
    rw [bo_rb hv hN hE hm1 _ (Nat.le_refl _)] at h1
    exact h1
  · refine gt_le_bo hv hld (fun i hi => (bo_rb hv hN hE hi _ (Nat.le_refl _)).symm) m 0 (by omega) hm1 (fun k hk _ => ?_)
    obtain ⟨j, h1, h2, h3⟩ := tight hv hld hE hk
    exact ⟨j, h1, h2, up_zero hv hr m j h2 h2, h3⟩
theorem other_le {n m : Nat} {gm : Nat → List UInt8} {gl gd : Nat → Int} {gb lm : Nat → List UInt8} {lf : Nat → Int} (h : (vgB n gm gl gd gb && vrB n m gm lm lf) = true) {nq : Nat} {lo : Nat → Int} (hf : WgF m nq lf lo (fun i => gl (ixO n gm lm i))) :
    boN lf m (owN lo (thN (enB m lf) m) nq) 0 ≤ (shL n gm lm gl m lf).sum := by
  have hvr : vrB n m gm lm lf = true := by simp at h; exact h.2
  rw [(shares_facts h).2.2]
  exact bo_le_gt (vr_lt hvr) (by rw [hf.1]; exact Nat.le_refl _) hf.2.2 m 0 (m_of h)
end Go.Proofs.YtmbjgaeofkikkaaDoor
