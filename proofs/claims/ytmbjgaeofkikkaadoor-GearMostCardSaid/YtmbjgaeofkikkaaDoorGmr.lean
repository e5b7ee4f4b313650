/- Until, Greatest and Most of the reference; Most of the program in all cases. -/
import Derived.Test.YtmbjgaeofkikkaaDoorLawGbe
import Derived.Test.YtmbjgaeofkikkaaDoorGut
namespace Go.Proofs.YtmbjgaeofkikkaaDoor
open Go.RowKit
attribute [local go_sem] After.cell After.frozen After.lt After.le After.ne After.ne' After.set_eq After.size_set After.lt_add tx_size tx_toList

/-- The greatest load that a link can bear by what hangs from it. -/
def gtN (ld lf : Nat → Int) (m : Nat) : Nat → Nat → Int
  | 0, i => ld i
  | d + 1, i => if hgB lf i m = true ∧ chS lf (gtN ld lf m d) i m < ld i then chS lf (gtN ld lf m d) i m else ld i
theorem gtN_bd {ld lf : Nat → Int} {m : Nat} (h : LdOk m ld) : ∀ d i, i < m → 0 ≤ gtN ld lf m d i ∧ gtN ld lf m d i ≤ 1000000
  | 0, i, hi => h i hi
  | d + 1, i, hi => by
    have h1 := h i hi
    have h2 := (chS_bd (lf := lf) (bo := gtN ld lf m d) (c := 1000000) (fun k hk => gtN_bd h d k hk) (by omega) i (Nat.le_refl m)).1
    unfold gtN
    split <;> omega
theorem hgB_low {lf : Nat → Int} {m i : Nat} (hv : ∀ k, k < m → lf k < k ∧ -1 ≤ lf k) : ∀ t, t ≤ i + 1 → t ≤ m → hgB lf i t = false
  | 0, _, _ => rfl
  | t + 1, h, h2 => by
    have := hv t (by omega)
    unfold hgB
    rw [hgB_low hv t (by omega) (by omega), decide_eq_false (by omega)]
    rfl
theorem chS_low {lf bo : Nat → Int} {m i : Nat} (hv : ∀ k, k < m → lf k < k ∧ -1 ≤ lf k) : ∀ t, t ≤ i + 1 → t ≤ m → chS lf bo i t = 0
  | 0, _, _ => rfl
  | t + 1, h, h2 => by
    have h3 := hv t (by omega)
    have h4 := chS_low (bo := bo) hv t (by omega) (by omega) (i := i)
    show chS lf bo i t + (if lf t = (i : Int) then bo t else 0) = 0
    rw [h4, if_neg (by omega)]
    rfl
section
variable (a : Option Addr) (n cap : Nat) (gm : Nat → List UInt8) (gl gd : Nat → Int) (gb : Nat → List UInt8) (al : Option Addr) (m capl : Nat) (lm : Nat → List UInt8) (lf : Nat → Int) (hn : n ≤ 1000) (hm : m ≤ 1000) (hb : (vgB n gm gl gd gb && vrB n m gm lm lf) = true)
include hn hm hb
set_option maxRecDepth 100000 in
set_option maxHeartbeats 2000000 in
theorem rgreat_any : ∀ (d i : Nat), m - i ≤ d → i < m → ∀ (w : World), ItAt w a n gm gl gd gb → LkAt w al m lm lf →
    Calls Tryd.prog 69 #[.slice a n cap, .slice al m capl, .int .i64 (i : Nat)] w fun e w' => e = .returned (.int .i64 (gtN (fun i => gl (ixO n gm lm i)) lf m d i)) ∧ Below w.heap.size w w' := by
  intro d
  induction d with
  | zero => intro i hd hi; omega
  | succ d ih =>
    intro i hd hi w hA hL
    have hv := vr_lt (n := n) (m := m) (gm := gm) (lm := lm) (lf := lf) (by simp at hb; exact hb.2)
    have HIh := Lib.hid (fun k (hk : i < k) (hkm : k < m) W (hW : Below w.heap.size w W) => ih k (by omega) hkm W (hA.on hW) (hL.on hW))
    have HG : Hid (gtN (fun i => gl (ixO n gm lm i)) lf m (d + 1) i = if hgB lf i m = true ∧ chS lf (gtN (fun i => gl (ixO n gm lm i)) lf m d) i m < gl (ixO n gm lm i) then chS lf (gtN (fun i => gl (ixO n gm lm i)) lf m d) i m else gl (ixO n gm lm i)) := Lib.hid rfl
    have HBd := Lib.hid (gtN_bd (lf := lf) (ld_of hb) d)
    have hs0 := hgB_low hv (i := i) (i + 1) (Nat.le_refl _) (by omega)
    have hs1 := chS_low hv (i := i) (bo := gtN (fun i => gl (ixO n gm lm i)) lf m d) (i + 1) (Nat.le_refl _) (by omega)
    have HS0 := Lib.hid (And.intro hs0 hs1)
    have HF := Lib.hid (fun x W (hW : Below w.heap.size w W) => rfind_any a n cap gm gl gd gb x W (hA.on hW) (by omega))
    obtain ⟨hix, hixn⟩ := ix_of hb hi
    have HA := Lib.hid hA
    have HL := Lib.hid hL
    have hmI2 : (m : Int) ≤ 1000 := by omega
    have hnI2 : (n : Int) ≤ 1000 := by omega
    have hiI : (i : Int) < (m : Int) := by omega
    have hiw : IntKind.i64.wrap ((i : Int) + 1) = (i : Int) + 1 := by rw [IntKind.wrap_i64]; omega
    have HFi := Lib.hid (fun W (hW : Below w.heap.size w W) => HF.out (lm i) W hW)
    rw [hix] at HFi
    have hixI : ((ixO n gm lm i : Nat) : Int) < (n : Int) := by omega
    have HVl := Lib.hid hv
    clear hL hA HF hb ih hs0 hs1 hix hv
    generalize gtN (fun i => gl (ixO n gm lm i)) lf m d = gt at *
    generalize ixO n gm lm i = ix at *
    go_enter Tryd.func69, Tryd.ntmps69
    go_wp2
    go_loopw [7, 8, 9] (fun s h j W => ∃ k : Nat, (i < k ∧ k ≤ m) ∧ j = .int .i64 k ∧ s = .int .i64 (chS lf gt i k) ∧ h = .bool (hgB lf i k) ∧ Hid (Below w.heap.size w W)) (fun _ _ j _ => m - (intOf j).toNat)
    case atStart => exact ⟨i + 1, ⟨by omega, by omega⟩, by first | rfl | go_num, by rw [HS0.out.2], by rw [HS0.out.1], Lib.hid (Below.refl _ _)⟩
    case round =>
      obtain ⟨k, hk, rfl, rfl, rfl, HB⟩ := hrel
      have hsb := chS_bd (lf := lf) (c := 1000000) HBd.out (by omega) i hk.2
      by_cases hlt : k < m
      · have hlti : (k : Int) < (m : Int) := by omega
        obtain ⟨bl, offl, rfl, hbl, l0, l1⟩ := (HL.out.on HB.out) k hlt
        have HS : Hid (chS lf gt i (k + 1) = chS lf gt i k + if lf k = (i : Int) then gt k else 0) := Lib.hid rfl
        have HGb : Hid (hgB lf i (k + 1) = (hgB lf i k || decide (lf k = (i : Int)))) := Lib.hid rfl
        by_cases he : lf k = (i : Int)
        · rw [if_pos he] at HS
          rw [decide_eq_true he, Bool.or_true] at HGb
          rw [he] at l1
          have hgk := HBd.out k hlt
          have HC := Lib.hid (HIh.out k hk.1 hlt _ HB.out)
          clear he
          generalize chS lf gt i k = s at *
          generalize gt k = gk at *
          go_wp2_with fail
          refine HC.out.mono ?_
          rintro e w2 ⟨rfl, hb2⟩
          have HB2 := Lib.hid (HB.out.trans (hb2.mono HB.out.size))
          clear hb2 HC
          go_wp2
          go_roundw
          case rel => exact ⟨k + 1, ⟨by omega, by omega⟩, by go_num, by rw [HS.out], by rw [HGb.out], HB2⟩
          case measure => simp [intOf]; omega
        · rw [if_neg he, Int.add_zero] at HS
          rw [decide_eq_false he, Bool.or_false] at HGb
          have hneq : (lf k == ((i : Nat) : Int)) = false := by simp [he]
          clear he
          generalize chS lf gt i k = s at *
          generalize hgB lf i k = hh at *
          go_wp2
          go_roundw
          case rel => exact ⟨k + 1, ⟨by omega, by omega⟩, by go_num, by rw [HS.out], by rw [HGb.out], HB⟩
          case measure => simp [intOf]; omega
      · obtain rfl : k = m := by omega
        obtain ⟨bl, offl, rfl, hbl, l0, l1⟩ := (HL.out.on HB.out) i hi
        generalize chS lf gt i k = s at *
        generalize hgB lf i k = hh at *
        go_wp2_with fail
        refine (HFi.out _ HB.out).mono ?_
        rintro e w2 ⟨rfl, hb2⟩
        have hB2 := HB.out.trans (hb2.mono HB.out.size)
        obtain ⟨b, off, rfl, hbb, p0, p1, p2, p3⟩ := (HA.out.on hB2) ix hixn
        have HB2 := Lib.hid hB2
        clear hb2 hB2 HFi p0 p2 p3
        generalize gl ix = g at *
        cases hh
        · go_wp2
          go_ret
          exact ⟨by rw [HG.out, if_neg (by simp)]; rfl, HB2.out⟩
        · by_cases hsg : s < g
          · go_wp2
            go_ret
            exact ⟨by rw [HG.out, if_pos (by simp; omega)]; rfl, HB2.out⟩
          · go_wp2
            go_ret
            exact ⟨by rw [HG.out, if_neg (by simp; omega)]; rfl, HB2.out⟩
end
section
variable (a : Option Addr) (n cap : Nat) (gm : Nat → List UInt8) (gl gd : Nat → Int) (gb : Nat → List UInt8) (al : Option Addr) (m capl : Nat) (lm : Nat → List UInt8) (lf : Nat → Int) (w : World) (hA : ItAt w a n gm gl gd gb) (hL : LkAt w al m lm lf) (hn : n ≤ 1000) (hm : m ≤ 1000) (hcap : m ≤ capl) (h1 : Sht n gm) (h2 : Sht n gb) (h3 : Sht m lm)
include hA hL hn hm hcap h1 h2 h3
set_option maxRecDepth 100000 in
set_option maxHeartbeats 1000000 in
theorem rgreatest_say : Calls Tryd.prog 32 #[.slice a n cap, .slice al m capl] w fun e w' => e = .returned (.tuple #[.int .i64 (if (vgB n gm gl gd gb && vrB n m gm lm lf) = true then gtN (fun i => gl (ixO n gm lm i)) lf m m 0 else 0), .int .i64 (erB (vgB n gm gl gd gb && vrB n m gm lm lf))]) ∧ Below w.heap.size w w' := by
  have HV := Lib.hid (rvalidRig_say a n cap gm gl gd gb al m capl lm lf w hA hL hn hm hcap h1 h2 h3)
  cases hb : vgB n gm gl gd gb && vrB n m gm lm lf
  · rw [hb] at HV
    clear hb hA hL h1 h2 h3 hn hm hcap
    go_enter Tryd.func32, Tryd.ntmps32
    go_wp2_with fail
    refine HV.out.mono ?_
    rintro e w2 ⟨rfl, hb2⟩
    have HB2 := Lib.hid hb2
    clear hb2 HV
    go_wp2
    go_returns
    exact ⟨rfl, HB2.out⟩
  · have HC := Lib.hid (fun W (hW : Below w.heap.size w W) => rgreat_any a n cap gm gl gd gb al m capl lm lf hn hm hb m 0 (by omega) (m_of hb) W (hA.on hW) (hL.on hW))
    rw [hb] at HV
    clear hb hA hL h1 h2 h3 hn hm hcap
    go_enter Tryd.func32, Tryd.ntmps32
    go_wp2_with fail
    refine HV.out.mono ?_
    rintro e w2 ⟨rfl, hb2⟩
    have HB2 := Lib.hid hb2
    clear hb2 HV
    go_wp2_with fail
    refine (HC.out _ HB2.out).mono ?_
    rintro e w3 ⟨rfl, hb3⟩
    have HB3 := Lib.hid (HB2.out.trans (hb3.mono HB2.out.size))
    clear hb3 HC
    go_wp2
    go_returns
    exact ⟨rfl, HB3.out⟩
end
end Go.Proofs.YtmbjgaeofkikkaaDoor
