/- Swapped, in both. -/
import Derived.Test.YtmbjgaeofkikkaaDoorGwl
import Derived.Test.YtmbjgaeofkikkaaDoorGlk
import Derived.Test.YtmbjgaeofkikkaaDoorGvs
namespace Go.Proofs.YtmbjgaeofkikkaaDoor
open Go.RowKit
attribute [local go_sem] After.cell After.frozen After.lt After.le After.ne After.ne' After.set_eq After.size_set After.lt_add tx_size tx_toList

/-- The error of Swapped. -/
def swE (b : Bool) (m : Nat) (k : Int) (o h : Option Nat) : Int := if b then (if Btw k 0 ((m : Int) - 1) then (match o with | none => 5 | some _ => (match h with | some _ => 6 | none => 0)) else 7) else 1
/-- What Swapped answers. -/
def SwA (m : Nat) (lm : Nat → List UInt8) (lf : Nat → Int) (x : List UInt8) (k : Int) (c : Int) (W : World) (e : Ending) : Prop :=
  (c ≠ 0 ∧ e = .returned (.tuple #[.slice none 0 0, .int .i64 c])) ∨ (c = 0 ∧ ∃ (i : Nat) (a' : Option Addr) (c' : Nat), k = (i : Int) ∧ i < m ∧ e = .returned (.tuple #[.slice a' m c', .int .i64 0]) ∧ m ≤ c' ∧ LkAt W a' m (updF lm i x) lf)
section
variable (a : Option Addr) (n cap : Nat) (gm : Nat → List UInt8) (gl gd : Nat → Int) (gb : Nat → List UInt8) (al : Option Addr) (m capl : Nat) (lm : Nat → List UInt8) (lf : Nat → Int) (w : World) (hA : ItAt w a n gm gl gd gb) (hL : LkAt w al m lm lf) (hn : n ≤ 1000) (hm : m ≤ 1000) (hcap : m ≤ capl) (h1 : Sht n gm) (h2 : Sht n gb) (h3 : Sht m lm)
include hA hL hn hm hcap h1 h2 h3
set_option maxRecDepth 100000 in
set_option maxHeartbeats 1000000 in
theorem swapped_any (k : Int) (x : List UInt8) (hx : x.length ≤ 9223372036854775807) : Calls Tryd.prog 45 #[.slice a n cap, .slice al m capl, .int .i64 k, .string (tx x)] w fun e w' => SwA m lm lf x k (swE (vgB n gm gl gd gb && vrB n m gm lm lf) m k (fdN gm n x) (fdN lm m x)) w' e ∧ Below w.heap.size w w' := by
  have HV := Lib.hid (validRig_say a n cap gm gl gd gb al m capl lm lf w hA hL hn hm hcap h1 h2 h3)
  have HF := Lib.hid (fun W (hW : Below w.heap.size w W) => find_say a n cap gm gl gd gb W (hA.on hW) hn h1 h2 x hx)
  have HH := Lib.hid (fun W (hW : Below w.heap.size w W) => has_any al m capl lm lf x W (hL.on hW) (by omega))
  have HD := Lib.hid (fun W => between_any k 0 ((m : Int) - 1) W)
  have hmI : (m : Int) ≤ 1000 := by omega
  have hwm : IntKind.i64.wrap ((m : Int) - 1) = (m : Int) - 1 := by rw [IntKind.wrap_i64]; omega
  have HL := Lib.hid hL
  cases hb : vgB n gm gl gd gb && vrB n m gm lm lf
  · rw [hb] at HV
    clear hb hA hL h1 h2 h3 HD HF HH hcap
    go_enter Tryd.func45, Tryd.ntmps45
    go_wp2_with fail
    refine HV.out.mono ?_
    rintro e w2 ⟨rfl, hb2⟩
    have HB2 := Lib.hid hb2
    clear hb2 HV
    go_wp2
    go_returns
    exact ⟨.inl ⟨by simp [swE], rfl⟩, HB2.out⟩
  · have hb1 : vgB n gm gl gd gb = true := by simp at hb; exact hb.1
    have HFi : Hid (fiE n gm gl gd gb x = match fdN gm n x with | some _ => 0 | none => 5) := Lib.hid (by unfold fiE; rw [hb1]; rfl)
    rw [hb] at HV
    by_cases hd : Btw k 0 ((m : Int) - 1)
    · rw [decide_eq_true hd] at HD
      obtain ⟨i, rfl⟩ : ∃ i : Nat, k = (i : Int) := ⟨k.toNat, by unfold Btw at hd; omega⟩
      have hi : i < m := by unfold Btw at hd; omega
      have hiI : (i : Int) < (m : Int) := by omega
      cases ho : fdN gm n x with
      | none =>
        rw [ho] at HFi
        rw [HFi.out] at HF
        generalize fiN n gm gl gd gb x = z at *
        clear hb hb1 ho hA hL h1 h2 h3 HFi HH hcap
        go_enter Tryd.func45, Tryd.ntmps45
        go_wp2_with fail
        refine HV.out.mono ?_
        rintro e w2 ⟨rfl, hb2⟩
        have HB2 := Lib.hid hb2
        clear hb2 HV
        go_wp2_with (go_at_call 65; refine (HD.out _).mono ?_; rintro e w9 ⟨rfl, rfl⟩)
        refine (HF.out _ HB2.out).mono ?_
        rintro e w3 ⟨rfl, hb3⟩
        have HB3 := Lib.hid (HB2.out.trans (hb3.mono HB2.out.size))
        clear hb3 HF
        go_wp2
        go_returns
        exact ⟨.inl ⟨by simp [swE, hd], by simp [swE, hd]⟩, HB3.out⟩
      | some j =>
        rw [ho] at HFi
        rw [HFi.out] at HF
        generalize fiN n gm gl gd gb x = z at *
        have HW := Lib.hid (fun W (hW : Below w.heap.size w W) => withL_any al m capl lm lf i x (lf i) W (hL.on hW) hm hcap hi)
        rw [updF_self] at HW
        cases hh : fdN lm m x with
        | some q =>
          rw [hh] at HH
          clear hb hb1 ho hh hA hL h1 h2 h3 HFi HW hcap
          go_enter Tryd.func45, Tryd.ntmps45
          go_wp2_with fail
          refine HV.out.mono ?_
          rintro e w2 ⟨rfl, hb2⟩
          have HB2 := Lib.hid hb2
          clear hb2 HV
          go_wp2_with (go_at_call 65; refine (HD.out _).mono ?_; rintro e w9 ⟨rfl, rfl⟩)
          refine (HF.out _ HB2.out).mono ?_
          rintro e w3 ⟨rfl, hb3⟩
          have HB3 := Lib.hid (HB2.out.trans (hb3.mono HB2.out.size))
          clear hb3 HF
          go_wp2_with fail
          refine (HH.out _ HB3.out).mono ?_
          rintro e w4 ⟨rfl, hb4⟩
          have HB4 := Lib.hid (HB3.out.trans (hb4.mono HB3.out.size))
          clear hb4 HH
          go_wp2
          go_returns
          exact ⟨.inl ⟨by simp [swE, hd], by simp [swE, hd]⟩, HB4.out⟩
        | none =>
          rw [hh] at HH
          clear hb hb1 ho hh hA hL h1 h2 h3 HFi hcap
          go_enter Tryd.func45, Tryd.ntmps45
          go_wp2_with fail
          refine HV.out.mono ?_
          rintro e w2 ⟨rfl, hb2⟩
          have HB2 := Lib.hid hb2
          clear hb2 HV
          go_wp2_with (go_at_call 65; refine (HD.out _).mono ?_; rintro e w9 ⟨rfl, rfl⟩)
          refine (HF.out _ HB2.out).mono ?_
          rintro e w3 ⟨rfl, hb3⟩
          have HB3 := Lib.hid (HB2.out.trans (hb3.mono HB2.out.size))
          clear hb3 HF
          go_wp2_with fail
          refine (HH.out _ HB3.out).mono ?_
          rintro e w4 ⟨rfl, hb4⟩
          have HB4 := Lib.hid (HB3.out.trans (hb4.mono HB3.out.size))
          obtain ⟨b, off, rfl, hbb, c0, c1⟩ := HL.out.on HB4.out i hi
          clear hb4 HH
          go_wp2_with fail
          refine (HW.out _ HB4.out).mono ?_
          rintro e w5 ⟨⟨a', c', rfl, hc', hI⟩, hb5⟩
          have HI := Lib.hid hI
          have HC := Lib.hid hc'
          have HB5 := Lib.hid (HB4.out.trans (hb5.mono HB4.out.size))
          clear hI hb5 hc' HW
          go_wp2
          go_returns
          exact ⟨.inr ⟨by simp [swE, hd], i, a', c', rfl, hi, rfl, HC.out, HI.out⟩, HB5.out⟩
    · rw [decide_eq_false hd] at HD
      clear hb hb1 hA hL h1 h2 h3 HFi HF HH hcap
      go_enter Tryd.func45, Tryd.ntmps45
      go_wp2_with fail
      refine HV.out.mono ?_
      rintro e w2 ⟨rfl, hb2⟩
      have HB2 := Lib.hid hb2
      clear hb2 HV
      go_wp2_with (go_at_call 65; refine (HD.out _).mono ?_; rintro e w9 ⟨rfl, rfl⟩)
      go_returns
      exact ⟨.inl ⟨by simp [swE, hd], by simp [swE, hd]⟩, HB2.out⟩
end
end Go.Proofs.YtmbjgaeofkikkaaDoor
