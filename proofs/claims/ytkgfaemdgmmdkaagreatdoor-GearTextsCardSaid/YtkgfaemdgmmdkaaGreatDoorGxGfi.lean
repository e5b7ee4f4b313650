/- Valid and Find, in both. -/
import Derived.Test.YtkgfaemdgmmdkaaGreatDoorGxGby
namespace Go.Proofs.YtkgfaemdgmmdkaaGreatDoor.Gx
open Go.Proofs.YtkgfaemdgmmdkaaGreatDoor
open Go.RowKit Go.Maps
attribute [local go_sem] After.cell After.frozen After.lt After.le After.ne After.ne' After.set_eq After.size_set After.lt_add tx_size tx_toList

section
variable (a : Option Addr) (n cap : Nat) (gm : Nat → List UInt8) (gl gd : Nat → Int) (gb : Nat → List UInt8) (w : World) (hA : ItAt w a n gm gl gd gb) (hn : n ≤ 1000) (hm : Sht n gm) (hb : Sht n gb)
include hA hn hm hb
set_option maxRecDepth 100000 in
set_option maxHeartbeats 1000000 in
theorem valid_say : Calls Tryz.prog 16 #[.slice a n cap] w fun e w' => e = .returned (.bool (vgB n gm gl gd gb)) ∧ Below w.heap.size w w' := by
  have HB := Lib.hid (fun W (hW : Below w.heap.size w W) => byMark_any a n cap gm gl gd gb W (hA.on hW) hn hm hb)
  clear hA hm hb hn
  generalize vgB n gm gl gd gb = v at *
  go_enter Tryz.func16, Tryz.ntmps16
  go_wp2_with fail
  refine (HB.out _ (Below.refl _ _)).mono ?_
  rintro e w2 ⟨hr, hb2⟩
  have HB2 := Lib.hid hb2
  cases v
  · obtain rfl : e = _ := hr
    clear hb2
    go_wp2
    go_ret
    exact ⟨rfl, HB2.out⟩
  · obtain ⟨B, rfl, _, _⟩ := hr
    clear hb2
    go_wp2
    go_ret
    exact ⟨rfl, HB2.out⟩
/-- What Find answers. -/
noncomputable def fiE (n : Nat) (gm : Nat → List UInt8) (gl gd : Nat → Int) (gb : Nat → List UInt8) (m : List UInt8) : Int := if vgB n gm gl gd gb then (match fdN gm n m with | some _ => 0 | none => 5) else 1
noncomputable def fiN (n : Nat) (gm : Nat → List UInt8) (gl gd : Nat → Int) (gb : Nat → List UInt8) (m : List UInt8) : Int := if vgB n gm gl gd gb then (match fdN gm n m with | some i => (i : Nat) | none => 0) else 0
end
end Go.Proofs.YtkgfaemdgmmdkaaGreatDoor.Gx
