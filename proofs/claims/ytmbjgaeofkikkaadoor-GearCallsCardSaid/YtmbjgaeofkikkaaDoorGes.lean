/- Ends of the program. -/
import Derived.Test.YtmbjgaeofkikkaaDoorGie
namespace Go.Proofs.YtmbjgaeofkikkaaDoor
open Go.RowKit
attribute [local go_sem] After.cell After.frozen After.lt After.le After.ne After.ne' After.set_eq After.size_set After.lt_add tx_size tx_toList

section
variable (a : Option Addr) (n cap : Nat) (gm : Nat → List UInt8) (gl gd : Nat → Int) (gb : Nat → List UInt8) (al : Option Addr) (m capl : Nat) (lm : Nat → List UInt8) (lf : Nat → Int) (w : World) (hA : ItAt w a n gm gl gd gb) (hL : LkAt w al m lm lf) (hn : n ≤ 1000) (hm : m ≤ 1000) (hcap : m ≤ capl) (h1 : Sht n gm) (h2 : Sht n gb) (h3 : Sht m lm)
include hA hL hn hm hcap h1 h2 h3
set_option maxRecDepth 100000 in
set_option maxHeartbeats 1000000 in
theorem ends_say : Calls Tryd.prog 18 #[.slice a n cap, .slice al m capl] w fun e w' => EnR (vgB n gm gl gd gb && vrB n m gm lm lf) (thN (enB m lf) m) w' e ∧ Below w.heap.size w w' := by
  have HO := Lib.hid (fun W (hW : Below w.heap.size w W) => open_any a n cap gm gl gd gb al m capl lm lf W (hA.on hW) (hL.on hW) hn hm hcap h1 h2 h3)
  have HE := Lib.hid (fun W (hW : Below w.heap.size w W) iv hv => ends_any al m capl iv lm lf W (hL.on hW) hm hv)
  have HV := Lib.hid (fun h => vr_lt (n := n) (m := m) (gm := gm) (lm := lm) (lf := lf) h)
  clear hA hL h1 h2 h3 hn hm hcap
  cases hb : vgB n gm gl gd gb && vrB n m gm lm lf
  · rw [hb] at HO
    clear hb HE HV
    go_enter Tryd.func18, Tryd.ntmps18
    go_wp2_with fail
    refine (HO.out _ (Below.refl _ _)).mono ?_
    rintro e w2 ⟨hr, hb2⟩
    obtain rfl : e = _ := hr
    have HB2 := Lib.hid (hb2.alloc hb2.size (.cells #[.slice none 0 0, .slice none 0 0] 70))
    clear hb2
    go_wp2
    go_returns
    exact ⟨rfl, HB2.out⟩
  · rw [hb] at HO
    have HV2 := Lib.hid (HV.out (by simp at hb; exact hb.2))
    clear hb HV
    go_enter Tryd.func18, Tryd.ntmps18
    go_wp2_with fail
    refine (HO.out _ (Below.refl _ _)).mono ?_
    rintro e w2 ⟨⟨a2, c2, rfl, _⟩, hb2⟩
    have HB2 := Lib.hid (hb2.alloc hb2.size (.cells #[.slice al m capl, .slice a2 m c2] 70))
    clear hb2 HO
    go_wp2_with fail
    refine (HE.out _ HB2.out _ HV2.out).mono ?_
    rintro e w3 ⟨v, rfl, hO, hb3⟩
    have HN := Lib.hid (nat_of hO)
    have HB3 := Lib.hid (HB2.out.trans (hb3.mono HB2.out.size))
    clear hO hb3
    go_wp2
    go_returns
    exact ⟨⟨_, rfl, HN.out⟩, HB3.out⟩
end
end Go.Proofs.YtmbjgaeofkikkaaDoor
