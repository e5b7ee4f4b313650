/- GearMay: the law's walk. -/
import Derived.Test.YtmbjgaeofkikkaaDoorGmp
import Derived.Test.YtmbjgaeofkikkaaDoorGmy
import Derived.Test.YtmbjgaeofkikkaaDoorGaw
namespace Go.Proofs.YtmbjgaeofkikkaaDoor
open Go.RowKit
attribute [local go_sem] After.cell After.frozen After.lt After.le After.ne After.ne' After.set_eq After.size_set After.lt_add tx_size tx_toList

theorem after_og4 {W W' : World} (h : Below W.heap.size W W') : ∃ y : After W, W' = y.w := ⟨⟨W', h⟩, rfl⟩
set_option maxRecDepth 100000 in
set_option maxHeartbeats 4000000 in
theorem gearMay_any (a : Option Addr) (n cap : Nat) (gm : Nat → List UInt8) (gl gd : Nat → Int) (gb : Nat → List UInt8) (al : Option Addr) (m capl : Nat) (lm : Nat → List UInt8) (lf : Nat → Int) (ak : Option Addr) (nk ck : Nat) (gs : Nat → List UInt8) (day : Int) (aq : Option Addr) (nq cq : Nat) (lo : Nat → Int) (w : World) (hA : ItAt w a n gm gl gd gb) (hL : LkAt w al m lm lf) (hT : TAt w ak nk gs) (hQ : GAt w aq nq lo) (hn : n ≤ 9223372036854775807) (hm : m ≤ 9223372036854775807) (hnq : nq ≤ 9223372036854775807) (hnk : nk ≤ 9223372036854775807) (hcap : m ≤ capl) (h1 : Sht n gm) (h2 : Sht n gb) (h3 : Sht m lm) :
    Calls Tryd.prog 5 #[.slice a n cap, .slice al m capl, .slice ak nk ck, .int .i64 day, .slice aq nq cq] w fun e w' => e = .returned (.bool true) ∧ Below w.heap.size w w' := by
  have HM := Lib.hid (fun W (hW : Below w.heap.size w W) => many_any a n cap gm gl gd gb al m capl lm lf W (hA.on hW) (hL.on hW) hn hm)
  have P1 := Lib.hid (fun W (hW : Below w.heap.size w W) hn hm hq hk => may_any a n cap gm gl gd gb al m capl lm lf ak nk ck gs day aq nq cq lo W (hA.on hW) (hL.on hW) (hT.on hW) (hQ.on hW) hn hm hcap h1 h2 h3 hq hk)
  have R1 := Lib.hid (fun W (hW : Below w.heap.size w W) hn hm hq hk => rmay_any a n cap gm gl gd gb al m capl lm lf ak nk ck gs day aq nq cq lo W (hA.on hW) (hL.on hW) (hT.on hW) (hQ.on hW) hn hm hcap h1 h2 h3 hq hk)
  have P2 := Lib.hid (fun W (hW : Below w.heap.size w W) hn hm hq hk => weak_any a n cap gm gl gd gb al m capl lm lf ak nk ck gs day aq nq cq lo W (hA.on hW) (hL.on hW) (hT.on hW) (hQ.on hW) hn hm hcap h1 h2 h3 hq hk)
  have R2 := Lib.hid (fun W (hW : Below w.heap.size w W) hn hm hq hk => rweak_any a n cap gm gl gd gb al m capl lm lf ak nk ck gs day aq nq cq lo W (hA.on hW) (hL.on hW) (hT.on hW) (hQ.on hW) hn hm hcap h1 h2 h3 hq hk)
  have HLe := Lib.hid (wkL_len (wkE (vgB n gm gl gd gb && vrB n m gm lm lf) nk (brE nq lo (thN (enB m lf) m).length) day) (wkF n gm lm gl gd gb m lf day nk gs nq lo) m)
  have HMy : Hid (myB (wkE (vgB n gm gl gd gb && vrB n m gm lm lf) nk (brE nq lo (thN (enB m lf) m).length) day) (wkF n gm lm gl gd gb m lf day nk gs nq lo) m = (decide (wkE (vgB n gm gl gd gb && vrB n m gm lm lf) nk (brE nq lo (thN (enB m lf) m).length) day = 0) && decide ((wkL (wkE (vgB n gm gl gd gb && vrB n m gm lm lf) nk (brE nq lo (thN (enB m lf) m).length) day) (wkF n gm lm gl gd gb m lf day nk gs nq lo) m).length = 0))) := Lib.hid rfl
  generalize myB (wkE (vgB n gm gl gd gb && vrB n m gm lm lf) nk (brE nq lo (thN (enB m lf) m).length) day) (wkF n gm lm gl gd gb m lf day nk gs nq lo) m = r at *
  have HW2 := Lib.hid (fun W e (h : WkA m (wkF n gm lm gl gd gb m lf day nk gs nq lo) (wkE (vgB n gm gl gd gb && vrB n m gm lm lf) nk (brE nq lo (thN (enB m lf) m).length) day) W e) => h.val)
  generalize wkL (wkE (vgB n gm gl gd gb && vrB n m gm lm lf) nk (brE nq lo (thN (enB m lf) m).length) day) (wkF n gm lm gl gd gb m lf day nk gs nq lo) m = L at *
  generalize wkE (vgB n gm gl gd gb && vrB n m gm lm lf) nk (brE nq lo (thN (enB m lf) m).length) day = c at *
  generalize wkF n gm lm gl gd gb m lf day nk gs nq lo = wk at *
  have hqI : ((nq : Nat) : Int) ≤ 9223372036854775807 := by omega
  have hkI : ((nk : Nat) : Int) ≤ 9223372036854775807 := by omega
  clear hA hL hT hQ h1 h2 h3 hn hm hcap hnq hnk
  go_enter Tryd.func5, Tryd.ntmps5
  go_wp2_with fail
  refine calls_after (awake_any _) ?_
  intro x1
  go_wp2_with fail
  refine (HM.out _ (by (repeat' (first | (with_reducible exact Below.refl _ _) | (with_reducible assumption) | (with_reducible refine Below.alloc ?_ ?_ _) | (with_reducible refine Below.drew ?_) | (with_reducible refine below_drewN ?_ _) | (with_reducible refine Below.setCell ?_ ?_ _) | (with_reducible refine below_after ?_ ?_ _) | (with_reducible refine below_set ?_) | (with_reducible refine After.size_le _ ?_) | (with_reducible refine size_alloc_le ?_) | (with_reducible refine size_set_le ?_) | (with_reducible refine size_drewN_le ?_) | go_size)))).mono ?_
  rintro e w2 ⟨⟨b, rfl, hbb⟩, hb2⟩
  obtain ⟨x2, rfl⟩ := after_og4 (x1.out.trans (hb2.mono x1.out.size))
  have HBB := Lib.hid hbb
  clear hb2 hbb HM
  cases b
  · have hnm := HBB.out rfl
    have hn1 : n ≤ 1000 := by omega
    have hm1 : m ≤ 1000 := by omega
    have Hnm := Lib.hid (And.intro hn1 hm1)
    have hLI : ((L.length : Nat) : Int) ≤ 1000 := by have := HLe.out; omega
    clear hnm hn1 hm1 HBB
    by_cases h120 : (120 : Int) < (nk : Int)
    · go_wp2
      go_ret
      exact ⟨rfl, by (repeat' (first | (with_reducible exact Below.refl _ _) | (with_reducible assumption) | (with_reducible refine Below.alloc ?_ ?_ _) | (with_reducible refine Below.drew ?_) | (with_reducible refine below_drewN ?_ _) | (with_reducible refine Below.setCell ?_ ?_ _) | (with_reducible refine below_after ?_ ?_ _) | (with_reducible refine below_set ?_) | (with_reducible refine After.size_le _ ?_) | (with_reducible refine size_alloc_le ?_) | (with_reducible refine size_set_le ?_) | (with_reducible refine size_drewN_le ?_) | go_size))⟩
    · by_cases h40 : (40 : Int) < (nq : Int)
      · go_wp2
        go_ret
        exact ⟨rfl, by (repeat' (first | (with_reducible exact Below.refl _ _) | (with_reducible assumption) | (with_reducible refine Below.alloc ?_ ?_ _) | (with_reducible refine Below.drew ?_) | (with_reducible refine below_drewN ?_ _) | (with_reducible refine Below.setCell ?_ ?_ _) | (with_reducible refine below_after ?_ ?_ _) | (with_reducible refine below_set ?_) | (with_reducible refine After.size_le _ ?_) | (with_reducible refine size_alloc_le ?_) | (with_reducible refine size_set_le ?_) | (with_reducible refine size_drewN_le ?_) | go_size))⟩
      · have Hqk := Lib.hid (show nq ≤ 1000 ∧ nk ≤ 1000 by omega)
        go_wp2_with fail
        refine calls_after2 (P1.out _ (by (repeat' (first | (with_reducible exact Below.refl _ _) | (with_reducible assumption) | (with_reducible refine Below.alloc ?_ ?_ _) | (with_reducible refine Below.drew ?_) | (with_reducible refine below_drewN ?_ _) | (with_reducible refine Below.setCell ?_ ?_ _) | (with_reducible refine below_after ?_ ?_ _) | (with_reducible refine below_set ?_) | (with_reducible refine After.size_le _ ?_) | (with_reducible refine size_alloc_le ?_) | (with_reducible refine size_set_le ?_) | (with_reducible refine size_drewN_le ?_) | go_size))) Hnm.out.1 Hnm.out.2 Hqk.out.1 Hqk.out.2) ?_
        intro x3
        clear P1
        go_wp2_with fail
        refine calls_after2 (R1.out _ (by (repeat' (first | (with_reducible exact Below.refl _ _) | (with_reducible assumption) | (with_reducible refine Below.alloc ?_ ?_ _) | (with_reducible refine Below.drew ?_) | (with_reducible refine below_drewN ?_ _) | (with_reducible refine Below.setCell ?_ ?_ _) | (with_reducible refine below_after ?_ ?_ _) | (with_reducible refine below_set ?_) | (with_reducible refine After.size_le _ ?_) | (with_reducible refine size_alloc_le ?_) | (with_reducible refine size_set_le ?_) | (with_reducible refine size_drewN_le ?_) | go_size))) Hnm.out.1 Hnm.out.2 Hqk.out.1 Hqk.out.2) ?_
        intro x4
        clear R1
        go_wp2_with fail
        refine (P2.out _ (by (repeat' (first | (with_reducible exact Below.refl _ _) | (with_reducible assumption) | (with_reducible refine Below.alloc ?_ ?_ _) | (with_reducible refine Below.drew ?_) | (with_reducible refine below_drewN ?_ _) | (with_reducible refine Below.setCell ?_ ?_ _) | (with_reducible refine below_after ?_ ?_ _) | (with_reducible refine below_set ?_) | (with_reducible refine After.size_le _ ?_) | (with_reducible refine size_alloc_le ?_) | (with_reducible refine size_set_le ?_) | (with_reducible refine size_drewN_le ?_) | go_size))) Hnm.out.1 Hnm.out.2 Hqk.out.1 Hqk.out.2).mono ?_
        rintro e w5 ⟨hr5, hb5⟩
        obtain ⟨v1, rfl, hv1⟩ := HW2.out _ _ hr5
        obtain ⟨x5, rfl⟩ := after_og4 (x4.out.trans (hb5.mono x4.out.size))
        have HV1 := Lib.hid hv1
        clear hb5 hr5 hv1 P2
        go_wp2_with fail
        refine (R2.out _ (by (repeat' (first | (with_reducible exact Below.refl _ _) | (with_reducible assumption) | (with_reducible refine Below.alloc ?_ ?_ _) | (with_reducible refine Below.drew ?_) | (with_reducible refine below_drewN ?_ _) | (with_reducible refine Below.setCell ?_ ?_ _) | (with_reducible refine below_after ?_ ?_ _) | (with_reducible refine below_set ?_) | (with_reducible refine After.size_le _ ?_) | (with_reducible refine size_alloc_le ?_) | (with_reducible refine size_set_le ?_) | (with_reducible refine size_drewN_le ?_) | go_size))) Hnm.out.1 Hnm.out.2 Hqk.out.1 Hqk.out.2).mono ?_
        rintro e w6 ⟨hr6, hb6⟩
        obtain ⟨v2, rfl, hv2⟩ := HW2.out _ _ hr6
        have HI1 := Lib.hid (HV1.out.on hb6)
        have HI2 := Lib.hid hv2
        obtain ⟨x6, rfl⟩ := after_og4 (x5.out.trans (hb6.mono x5.out.size))
        clear hb6 hr6 hv2 R2 HV1
        have HSm := Lib.hid (sameInts_any HI1.out HI2.out (by have := HLe.out; omega))
        obtain ⟨q1, q2, rfl, _⟩ := HI1.out
        by_cases h0 : c = 0
        · subst h0
          by_cases hl : L.length = 0
          · have hl' : (((L.length : Nat) : Int) == 0) = true := by simp [hl]
            obtain rfl : r = true := by rw [HMy.out, decide_eq_true hl]; rfl
            clear hl HMy
            go_wp2_with fail
            refine calls_after2 HSm.out ?_
            intro x7
            go_wp2
            go_ret
            exact ⟨rfl, by (repeat' (first | (with_reducible exact Below.refl _ _) | (with_reducible assumption) | (with_reducible refine Below.alloc ?_ ?_ _) | (with_reducible refine Below.drew ?_) | (with_reducible refine below_drewN ?_ _) | (with_reducible refine Below.setCell ?_ ?_ _) | (with_reducible refine below_after ?_ ?_ _) | (with_reducible refine below_set ?_) | (with_reducible refine After.size_le _ ?_) | (with_reducible refine size_alloc_le ?_) | (with_reducible refine size_set_le ?_) | (with_reducible refine size_drewN_le ?_) | go_size))⟩
          · have hl' : (((L.length : Nat) : Int) == 0) = false := by simp; exact fun e => hl (by simp [e])
            obtain rfl : r = false := by rw [HMy.out, decide_eq_false hl]; rfl
            clear hl HMy
            go_wp2_with fail
            refine calls_after2 HSm.out ?_
            intro x7
            go_wp2
            go_ret
            exact ⟨rfl, by (repeat' (first | (with_reducible exact Below.refl _ _) | (with_reducible assumption) | (with_reducible refine Below.alloc ?_ ?_ _) | (with_reducible refine Below.drew ?_) | (with_reducible refine below_drewN ?_ _) | (with_reducible refine Below.setCell ?_ ?_ _) | (with_reducible refine below_after ?_ ?_ _) | (with_reducible refine below_set ?_) | (with_reducible refine After.size_le _ ?_) | (with_reducible refine size_alloc_le ?_) | (with_reducible refine size_set_le ?_) | (with_reducible refine size_drewN_le ?_) | go_size))⟩
        · have hne : (c != 0) = true := by simp [h0]
          clear h0 HMy
          go_wp2_with fail
          refine calls_after2 HSm.out ?_
          intro x7
          go_wp2
          go_ret
          exact ⟨rfl, by (repeat' (first | (with_reducible exact Below.refl _ _) | (with_reducible assumption) | (with_reducible refine Below.alloc ?_ ?_ _) | (with_reducible refine Below.drew ?_) | (with_reducible refine below_drewN ?_ _) | (with_reducible refine Below.setCell ?_ ?_ _) | (with_reducible refine below_after ?_ ?_ _) | (with_reducible refine below_set ?_) | (with_reducible refine After.size_le _ ?_) | (with_reducible refine size_alloc_le ?_) | (with_reducible refine size_set_le ?_) | (with_reducible refine size_drewN_le ?_) | go_size))⟩
  · go_wp2
    go_ret
    exact ⟨rfl, by (repeat' (first | (with_reducible exact Below.refl _ _) | (with_reducible assumption) | (with_reducible refine Below.alloc ?_ ?_ _) | (with_reducible refine Below.drew ?_) | (with_reducible refine below_drewN ?_ _) | (with_reducible refine Below.setCell ?_ ?_ _) | (with_reducible refine below_after ?_ ?_ _) | (with_reducible refine below_set ?_) | (with_reducible refine After.size_le _ ?_) | (with_reducible refine size_alloc_le ?_) | (with_reducible refine size_set_le ?_) | (with_reducible refine size_drewN_le ?_) | go_size))⟩
end Go.Proofs.YtmbjgaeofkikkaaDoor
