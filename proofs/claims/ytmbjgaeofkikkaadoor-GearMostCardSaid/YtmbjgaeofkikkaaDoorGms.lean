/- Until and Most of the reference; Most of the program in all cases. -/
import Derived.Test.YtmbjgaeofkikkaaDoorGmr
import Derived.Test.YtmbjgaeofkikkaaDoorGmo
namespace Go.Proofs.YtmbjgaeofkikkaaDoor
open Go.RowKit
attribute [local go_sem] After.cell After.frozen After.lt After.le After.ne After.ne' After.set_eq After.size_set After.lt_add tx_size tx_toList

/-- The error of Most. -/
def moE (b : Bool) (m : Nat) (lf : Nat → Int) (k : Int) : Int := if b then (if Btw k 0 ((m : Int) - 1) then (if enB m lf k.toNat then 0 else 10) else 7) else 1
/-- What Most answers. -/
def moV (b : Bool) (n : Nat) (gm lm : Nat → List UInt8) (gl : Nat → Int) (m : Nat) (lf : Nat → Int) (k : Int) : Int := if moE b m lf k = 0 then moN n gm lm gl m lf k.toNat else 0
theorem mnU_top {g : Nat → Int} {k : Nat} {L : List Nat} (h : g k ≤ 1000000) : mnU g 1000000 (k :: L) = mnU g (g k) (k :: L) := by
  show mnU g (min 1000000 (g k)) L = mnU g (min (g k) (g k)) L
  congr 1
  omega
section
variable (a : Option Addr) (n cap : Nat) (gm : Nat → List UInt8) (gl gd : Nat → Int) (gb : Nat → List UInt8) (al : Option Addr) (m capl : Nat) (lm : Nat → List UInt8) (lf : Nat → Int) (w : World) (hA : ItAt w a n gm gl gd gb) (hL : LkAt w al m lm lf) (hn : n ≤ 1000) (hm : m ≤ 1000) (hcap : m ≤ capl) (h1 : Sht n gm) (h2 : Sht n gb) (h3 : Sht m lm)
include hA hL hn hm hcap h1 h2 h3
set_option maxRecDepth 100000 in
set_option maxHeartbeats 1000000 in
theorem runtil_any : Calls Tryd.prog 30 #[.slice a n cap, .slice al m capl] w fun e w' => e = .returned (.tuple #[.int .i64 (unN (vgB n gm gl gd gb && vrB n m gm lm lf) n gm lm gd m), .int .i64 (erB (vgB n gm gl gd gb && vrB n m gm lm lf))]) ∧ Below w.heap.size w w' := by
  have HV := Lib.hid (rvalidRig_say a n cap gm gl gd gb al m capl lm lf w hA hL hn hm hcap h1 h2 h3)
  have hmI : (m : Int) ≤ 1000 := by omega
  have hnI : (n : Int) ≤ 1000 := by omega
  cases hb : vgB n gm gl gd gb && vrB n m gm lm lf
  · rw [hb] at HV
    clear hb hA hL h1 h2 h3 hn hm hcap
    go_enter Tryd.func30, Tryd.ntmps30
    go_wp2_with fail
    refine HV.out.mono ?_
    rintro e w2 ⟨rfl, hb2⟩
    have HB2 := Lib.hid hb2
    clear hb2 HV
    go_wp2
    go_returns
    exact ⟨rfl, HB2.out⟩
  · have HF := Lib.hid (fun x W (hW : Below w.heap.size w W) => rfind_any a n cap gm gl gd gb x W (hA.on hW) (by omega))
    have HIx := Lib.hid (fun i (hi : i < m) => ix_of hb hi)
    have HA := Lib.hid hA
    have HL := Lib.hid hL
    rw [hb] at HV
    clear hb hA hL h1 h2 h3 hn hm hcap
    have HU : Hid (unN true n gm lm gd m = unT (fun i => gd (ixO n gm lm i)) m) := Lib.hid rfl
    go_enter Tryd.func30, Tryd.ntmps30
    go_wp2_with fail
    refine HV.out.mono ?_
    rintro e w2 ⟨rfl, hb2⟩
    have HB2 := Lib.hid hb2
    clear hb2 HV
    go_wp2
    go_loopw [6, 7] (fun s i W => ∃ k : Nat, k ≤ m ∧ i = .int .i64 k ∧ s = .int .i64 (unT (fun i => gd (ixO n gm lm i)) k) ∧ Hid (Below w.heap.size w W)) (fun _ i _ => m - (intOf i).toNat)
    case atStart => exact ⟨0, Nat.zero_le _, rfl, rfl, HB2⟩
    case round =>
      obtain ⟨k, hk, rfl, rfl, HB⟩ := hrel
      by_cases hlt : k < m
      · have hlti : (k : Int) < (m : Int) := by omega
        obtain ⟨bl, offl, rfl, hbl, l0, l1⟩ := (HL.out.on HB.out) k hlt
        obtain ⟨hix, hixn⟩ := HIx.out k hlt
        have HFk := Lib.hid (HF.out (lm k) _ HB.out)
        rw [hix] at HFk
        have hixI : ((ixO n gm lm k : Nat) : Int) < (n : Int) := by omega
        have HS : Hid (unT (fun i => gd (ixO n gm lm i)) (k + 1) = min (unT (fun i => gd (ixO n gm lm i)) k) (gd (ixO n gm lm k))) := Lib.hid rfl
        clear hix
        generalize unT (fun i => gd (ixO n gm lm i)) k = s at *
        generalize ixO n gm lm k = ix at *
        go_wp2_with fail
        refine HFk.out.mono ?_
        rintro e w3 ⟨rfl, hb3⟩
        have hB3 := HB.out.trans (hb3.mono HB.out.size)
        obtain ⟨b, off, rfl, hbb, p0, p1, p2, p3⟩ := (HA.out.on hB3) ix hixn
        have HB3 := Lib.hid hB3
        clear hb3 hB3 HFk p0 p1 p3
        generalize gd ix = g at *
        by_cases hsg : g < s
        · go_wp2
          go_roundw
          case rel => exact ⟨k + 1, by omega, by go_num, by rw [HS.out]; congr 1; omega, HB3⟩
          case measure => simp [intOf]; omega
        · go_wp2
          go_roundw
          case rel => exact ⟨k + 1, by omega, by go_num, by rw [HS.out]; congr 1; omega, HB3⟩
          case measure => simp [intOf]; omega
      · obtain rfl : k = m := by omega
        go_wp2
        go_returns
        exact ⟨by rw [HU.out]; rfl, HB.out⟩
set_option maxRecDepth 100000 in
set_option maxHeartbeats 1000000 in
theorem most_any (k : Int) : Calls Tryd.prog 27 #[.slice a n cap, .slice al m capl, .int .i64 k] w fun e w' => e = .returned (.tuple #[.int .i64 (moV (vgB n gm gl gd gb && vrB n m gm lm lf) n gm lm gl m lf k), .int .i64 (moE (vgB n gm gl gd gb && vrB n m gm lm lf) m lf k)]) ∧ Below w.heap.size w w' := by
  have HO := Lib.hid (fun W (hW : Below w.heap.size w W) => open_any a n cap gm gl gd gb al m capl lm lf W (hA.on hW) (hL.on hW) hn hm hcap h1 h2 h3)
  have HD := Lib.hid (fun W => between_any k 0 ((m : Int) - 1) W)
  have hmI : (m : Int) ≤ 1000 := by omega
  have hwm : IntKind.i64.wrap ((m : Int) - 1) = (m : Int) - 1 := by rw [IntKind.wrap_i64]; omega
  cases hb : vgB n gm gl gd gb && vrB n m gm lm lf
  · rw [hb] at HO
    clear hb hA hL h1 h2 h3 hn hm hcap
    go_enter Tryd.func27, Tryd.ntmps27
    go_wp2_with fail
    refine (HO.out _ (Below.refl _ _)).mono ?_
    rintro e w2 ⟨hr, hb2⟩
    obtain rfl : e = _ := hr
    have HB2 := Lib.hid (hb2.alloc hb2.size (.cells #[.slice none 0 0, .slice none 0 0] 70))
    clear hb2
    go_wp2
    go_returns
    exact ⟨by simp [moV, moE], HB2.out⟩
  · by_cases hd : Btw k 0 ((m : Int) - 1)
    · obtain ⟨i, rfl⟩ : ∃ i : Nat, k = (i : Int) := ⟨k.toNat, by unfold Btw at hd; omega⟩
      have hi : i < m := by unfold Btw at hd; omega
      cases he : enB m lf i
      · have HE : Hid (moE true m lf (i : Nat) = 10 ∧ moV true n gm lm gl m lf (i : Nat) = 0) := Lib.hid (by
          have e1 : moE true m lf (i : Nat) = 10 := by unfold moE; rw [if_pos rfl, if_pos hd, Int.toNat_natCast, he]; rfl
          refine ⟨e1, ?_⟩
          unfold moV; rw [e1]; rfl)
        have hv := vr_lt (n := n) (m := m) (gm := gm) (lm := lm) (lf := lf) (by simp at hb; exact hb.2)
        have HI := Lib.hid (fun W (hW : Below w.heap.size w W) iv => isEnd_any al m capl iv lm lf i W (hL.on hW) hm hv hi)
        rw [decide_eq_true hd] at HD
        rw [he] at HI
        rw [hb] at HO
        clear hb hd he hA hL h1 h2 h3 hn hm hcap hv
        go_enter Tryd.func27, Tryd.ntmps27
        go_wp2_with fail
        refine (HO.out _ (Below.refl _ _)).mono ?_
        rintro e w2 ⟨⟨a2, c2, rfl, hI⟩, hb2⟩
        have HB2 := Lib.hid (hb2.alloc hb2.size (.cells #[.slice al m capl, .slice a2 m c2] 70))
        clear hb2 hI HO
        go_wp2_with (first | (go_at_call 65; refine (HD.out _).mono ?_; rintro e w' ⟨rfl, rfl⟩) | (go_at_call 66; refine (HI.out _ HB2.out _).mono ?_; rintro e w3 ⟨rfl, hb3⟩; have HB3 := Lib.hid (HB2.out.trans (hb3.mono HB2.out.size)); clear hb3))
        go_returns
        exact ⟨by rw [HE.out.1, HE.out.2]; rfl, HB3.out⟩
      · have HE : Hid (moE true m lf (i : Nat) = 0 ∧ moV true n gm lm gl m lf (i : Nat) = moN n gm lm gl m lf i) := Lib.hid (by
          have e1 : moE true m lf (i : Nat) = 0 := by unfold moE; rw [if_pos rfl, if_pos hd, Int.toNat_natCast, he]; rfl
          refine ⟨e1, ?_⟩
          unfold moV; rw [e1, Int.toNat_natCast]; rfl)
        have h9 := most_ok a n cap gm gl gd gb al m capl lm lf w hA hL hn hm hcap h1 h2 h3 hb i hi he
        rw [HE.out.1, HE.out.2]
        exact h9
    · have HE : Hid (moE true m lf k = 7 ∧ moV true n gm lm gl m lf k = 0) := Lib.hid (by
        have e1 : moE true m lf k = 7 := by unfold moE; rw [if_pos rfl, if_neg hd]
        refine ⟨e1, ?_⟩
        unfold moV; rw [e1]; rfl)
      rw [decide_eq_false hd] at HD
      rw [hb] at HO
      clear hb hd hA hL h1 h2 h3 hn hm hcap
      go_enter Tryd.func27, Tryd.ntmps27
      go_wp2_with fail
      refine (HO.out _ (Below.refl _ _)).mono ?_
      rintro e w2 ⟨⟨a2, c2, rfl, hI⟩, hb2⟩
      have HB2 := Lib.hid (hb2.alloc hb2.size (.cells #[.slice al m capl, .slice a2 m c2] 70))
      clear hb2 hI HO
      go_wp2_with (go_at_call 65; refine (HD.out _).mono ?_; rintro e w' ⟨rfl, rfl⟩)
      go_returns
      exact ⟨by rw [HE.out.1, HE.out.2]; rfl, HB2.out⟩
set_option maxRecDepth 100000 in
set_option maxHeartbeats 2000000 in
theorem rmost_any (k : Int) : Calls Tryd.prog 28 #[.slice a n cap, .slice al m capl, .int .i64 k] w fun e w' => e = .returned (.tuple #[.int .i64 (moV (vgB n gm gl gd gb && vrB n m gm lm lf) n gm lm gl m lf k), .int .i64 (moE (vgB n gm gl gd gb && vrB n m gm lm lf) m lf k)]) ∧ Below w.heap.size w w' := by
  have HV := Lib.hid (rvalidRig_say a n cap gm gl gd gb al m capl lm lf w hA hL hn hm hcap h1 h2 h3)
  have HD := Lib.hid (fun W => rwithin_any k 0 ((m : Int) - 1) W)
  have hmI : (m : Int) ≤ 1000 := by omega
  have hnI : (n : Int) ≤ 1000 := by omega
  have hwm : IntKind.i64.wrap ((m : Int) - 1) = (m : Int) - 1 := by rw [IntKind.wrap_i64]; omega
  cases hb : vgB n gm gl gd gb && vrB n m gm lm lf
  · rw [hb] at HV
    clear hb hA hL h1 h2 h3 hn hm hcap
    go_enter Tryd.func28, Tryd.ntmps28
    go_wp2_with fail
    refine HV.out.mono ?_
    rintro e w2 ⟨rfl, hb2⟩
    have HB2 := Lib.hid hb2
    clear hb2 HV
    go_wp2
    go_returns
    exact ⟨by simp [moV, moE], HB2.out⟩
  · by_cases hd : Btw k 0 ((m : Int) - 1)
    · obtain ⟨i, rfl⟩ : ∃ i : Nat, k = (i : Int) := ⟨k.toNat, by unfold Btw at hd; omega⟩
      have hi : i < m := by unfold Btw at hd; omega
      have hiI : (i : Int) < (m : Int) := by omega
      have hv := vr_lt (n := n) (m := m) (gm := gm) (lm := lm) (lf := lf) (by simp at hb; exact hb.2)
      have hld := ld_of hb
      have HMo : Hid (enB m lf i = true → moE true m lf (i : Nat) = 0 ∧ moV true n gm lm gl m lf (i : Nat) = mnU (fun i => gl (ixO n gm lm i)) 1000000 (upO lf m (i : Nat))) := Lib.hid (fun he => by
        have e1 : moE true m lf (i : Nat) = 0 := by unfold moE; rw [if_pos rfl, if_pos hd, Int.toNat_natCast, he]; rfl
        refine ⟨e1, ?_⟩
        unfold moV
        rw [e1, Int.toNat_natCast, if_pos rfl, upO_step hv hi, mnU_top (g := fun i => gl (ixO n gm lm i)) (hld i hi).2, ← upO_step hv hi]
        rfl)
      have HE10 : Hid (enB m lf i = false → moE true m lf (i : Nat) = 10 ∧ moV true n gm lm gl m lf (i : Nat) = 0) := Lib.hid (fun he => by
        have e1 : moE true m lf (i : Nat) = 10 := by unfold moE; rw [if_pos rfl, if_pos hd, Int.toNat_natCast, he]; rfl
        refine ⟨e1, ?_⟩
        unfold moV; rw [e1]; rfl)
      have HF := Lib.hid (fun x W (hW : Below w.heap.size w W) => rfind_any a n cap gm gl gd gb x W (hA.on hW) (by omega))
      have HIx := Lib.hid (fun i (hi : i < m) => ix_of hb hi)
      have HA := Lib.hid hA
      have HL := Lib.hid hL
      have HVl := Lib.hid hv
      rw [decide_eq_true hd] at HD
      rw [hb] at HV
      clear hb hd hA hL h1 h2 h3 hn hm hcap hv hld
      go_enter Tryd.func28, Tryd.ntmps28
      go_wp2_with fail
      refine HV.out.mono ?_
      rintro e w2 ⟨rfl, hb2⟩
      have HB2 := Lib.hid hb2
      clear hb2 HV
      go_wp2_with (go_at_call 50; refine (HD.out _).mono ?_; rintro e w' ⟨rfl, rfl⟩)
      go_loopw [8] (fun j W => ∃ t : Nat, t ≤ m ∧ j = .int .i64 t ∧ Hid (∀ q, q < t → lf q ≠ (i : Int)) ∧ W = w2) (fun j _ => m - (intOf j).toNat)
      case atStart => exact ⟨0, Nat.zero_le _, rfl, Lib.hid (fun q hq => by omega), rfl⟩
      case round =>
        obtain ⟨t, ht, rfl, HN, rfl⟩ := hrel
        by_cases htm : t < m
        · have htI : (t : Int) < (m : Int) := by omega
          obtain ⟨bl, offl, rfl, hbl, l0, l1⟩ := (HL.out.on HB2.out) t htm
          by_cases he : lf t = (i : Int)
          · have HEn := Lib.hid (HE10.out (enB_false htm he))
            rw [he] at l1
            clear he
            go_wp2
            go_returns
            exact ⟨by rw [HEn.out.1, HEn.out.2]; rfl, HB2.out⟩
          · have hne : (lf t == ((i : Nat) : Int)) = false := by simp [he]
            have HQ := Lib.hid he
            clear he
            go_wp2
            go_roundw
            case rel => exact ⟨t + 1, by omega, by go_num, Lib.hid (fun q hq => by
              by_cases e : q = t
              · subst e; exact HQ.out
              · exact HN.out q (by omega)), by first | rfl | trivial⟩
            case measure => simp [intOf]; omega
        · obtain rfl : t = m := by omega
          have HEn := Lib.hid (HMo.out (enB_true HN.out))
          go_wp2
          go_loopw [9, 10] (fun s i' W => ∃ (x : Int) (pre : List Nat) (d : Nat), i' = .int .i64 x ∧ s = .int .i64 (mnU (fun i => gl (ixO n gm lm i)) 1000000 pre) ∧ Hid (upO lf t (i : Nat) = pre ++ upL lf d x) ∧ (-1 ≤ x ∧ x < t ∧ x < d) ∧ Hid (Below w.heap.size w W)) (fun _ i' _ => (intOf i' + 1).toNat)
          case atStart => exact ⟨_, [], t + 1, rfl, rfl, Lib.hid rfl, ⟨by omega, by omega, by omega⟩, HB2⟩
          case round =>
            obtain ⟨x, pre, d, rfl, rfl, HP, hx, HB⟩ := hrel
            by_cases h0 : 0 ≤ x
            · obtain ⟨y, rfl⟩ : ∃ y : Nat, x = (y : Int) := ⟨x.toNat, by omega⟩
              obtain ⟨d, rfl⟩ : ∃ d', d = d' + 1 := ⟨d - 1, by omega⟩
              have hym : y < t := by omega
              have hyv := HVl.out y hym
              have HP2 : Hid (upO lf t (i : Nat) = (pre ++ [y]) ++ upL lf d (lf y)) := Lib.hid (by rw [HP.out, upL_step]; simp)
              have HS : Hid (mnU (fun i => gl (ixO n gm lm i)) 1000000 (pre ++ [y]) = min (mnU (fun i => gl (ixO n gm lm i)) 1000000 pre) (gl (ixO n gm lm y))) := Lib.hid (mnU_snoc _ _ _ _)
              obtain ⟨bl, offl, rfl, hbl, l0, l1⟩ := (HL.out.on HB.out) y hym
              obtain ⟨hix, hixn⟩ := HIx.out y hym
              have HFk := Lib.hid (HF.out (lm y) _ HB.out)
              rw [hix] at HFk
              have hixI : ((ixO n gm lm y : Nat) : Int) < (n : Int) := by omega
              clear hix HP
              generalize mnU (fun i => gl (ixO n gm lm i)) 1000000 pre = s at *
              generalize ixO n gm lm y = ix at *
              go_wp2_with fail
              refine HFk.out.mono ?_
              rintro e w3 ⟨rfl, hb3⟩
              have hB3 := HB.out.trans (hb3.mono HB.out.size)
              obtain ⟨b, off, rfl, hbb, p0, p1, p2, p3⟩ := (HA.out.on hB3) ix hixn
              have l1 := (hb3.cell (p := ⟨bl, offl + y * 2 + 1, none⟩) hbl).trans l1
              have HB3 := Lib.hid hB3
              clear hb3 hB3 HFk p0 p2 p3
              generalize gl ix = g at *
              generalize lf y = lfy at *
              by_cases hsg : g < s
              · go_wp2
                go_roundw
                case rel => exact ⟨_, pre ++ [y], d, rfl, by rw [HS.out]; congr 1; omega, HP2, ⟨by omega, by omega, by omega⟩, HB3⟩
                case measure => simp [intOf]; omega
              · go_wp2
                go_roundw
                case rel => exact ⟨_, pre ++ [y], d, rfl, by rw [HS.out]; congr 1; omega, HP2, ⟨by omega, by omega, by omega⟩, HB3⟩
                case measure => simp [intOf]; omega
            · have hx1 : x = -1 := by omega
              have HU : Hid (upO lf t (i : Nat) = pre) := Lib.hid (by rw [HP.out, upL_end lf (by omega), List.append_nil])
              subst hx1
              clear HP
              go_wp2
              go_returns
              exact ⟨by rw [HEn.out.1, HEn.out.2, HU.out]; rfl, HB.out⟩
    · have HE : Hid (moE true m lf k = 7 ∧ moV true n gm lm gl m lf k = 0) := Lib.hid (by
        have e1 : moE true m lf k = 7 := by unfold moE; rw [if_pos rfl, if_neg hd]
        refine ⟨e1, ?_⟩
        unfold moV; rw [e1]; rfl)
      rw [decide_eq_false hd] at HD
      rw [hb] at HV
      clear hb hd hA hL h1 h2 h3 hn hm hcap
      go_enter Tryd.func28, Tryd.ntmps28
      go_wp2_with fail
      refine HV.out.mono ?_
      rintro e w2 ⟨rfl, hb2⟩
      have HB2 := Lib.hid hb2
      clear hb2 HV
      go_wp2_with (go_at_call 50; refine (HD.out _).mono ?_; rintro e w' ⟨rfl, rfl⟩)
      go_returns
      exact ⟨by rw [HE.out.1, HE.out.2]; rfl, HB2.out⟩
end
end Go.Proofs.YtmbjgaeofkikkaaDoor
