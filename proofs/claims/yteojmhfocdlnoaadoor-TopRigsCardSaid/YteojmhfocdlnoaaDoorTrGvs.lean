/- ValidRig, in both; ends of the reference; those of the program. -/
import Derived.Test.YteojmhfocdlnoaaDoorTrGop
namespace Go.Proofs.YteojmhfocdlnoaaDoor.Tr
open Go.Proofs.YteojmhfocdlnoaaDoor
open Go.RowKit
attribute [local go_sem] After.cell After.frozen After.lt After.le After.ne After.ne' After.set_eq After.size_set After.lt_add tx_size tx_toList

section
variable (a : Option Addr) (n cap : Nat) (gm : Nat → List UInt8) (gl gd : Nat → Int) (gb : Nat → List UInt8) (al : Option Addr) (m capl : Nat) (lm : Nat → List UInt8) (lf : Nat → Int) (w : World) (hA : ItAt w a n gm gl gd gb) (hL : LkAt w al m lm lf) (hn : n ≤ 1000) (hm : m ≤ 1000) (hcap : m ≤ capl) (h1 : Sht n gm) (h2 : Sht n gb) (h3 : Sht m lm)
include hA hL hn hm hcap h1 h2 h3
set_option maxRecDepth 100000 in
set_option maxHeartbeats 1000000 in
theorem rvalidRig_say : Calls Tryd.prog 4 #[.slice a n cap, .slice al m capl] w fun e w' => e = .returned (.bool (vgB n gm gl gd gb && vrB n m gm lm lf)) ∧ Below w.heap.size w w' := by
  have _ := And.intro hcap h3
  have HV := Lib.hid (fun W (hW : Below w.heap.size w W) => rvalid_any a n cap gm gl gd gb W (hA.on hW) hn h1 h2)
  have HR := Lib.hid (fun W (hW : Below w.heap.size w W) => rvalidRig0_any a n cap gm gl gd gb al m capl lm lf W (hA.on hW) (hL.on hW) hn hm)
  clear hA hL h1 h2 h3 hn hm hcap
  cases hv : vgB n gm gl gd gb
  · rw [hv] at HV
    clear hv HR
    go_enter Tryd.func4, Tryd.ntmps4
    go_wp2_with fail
    refine calls_after (HV.out _ (by (repeat' (first | (with_reducible exact Below.refl _ _) | (with_reducible assumption) | (with_reducible refine Below.alloc ?_ ?_ _) | (with_reducible refine Below.drew ?_) | (with_reducible refine below_drewN ?_ _) | (with_reducible refine Below.setCell ?_ ?_ _) | (with_reducible refine below_after ?_ ?_ _) | (with_reducible refine below_set ?_) | (with_reducible refine After.size_le _ ?_) | (with_reducible refine size_alloc_le ?_) | (with_reducible refine size_set_le ?_) | (with_reducible refine size_drewN_le ?_) | go_size)))) ?_
    intro x1
    go_wp2
    go_ret
    exact ⟨rfl, by (repeat' (first | (with_reducible exact Below.refl _ _) | (with_reducible assumption) | (with_reducible refine Below.alloc ?_ ?_ _) | (with_reducible refine Below.drew ?_) | (with_reducible refine below_drewN ?_ _) | (with_reducible refine Below.setCell ?_ ?_ _) | (with_reducible refine below_after ?_ ?_ _) | (with_reducible refine below_set ?_) | (with_reducible refine After.size_le _ ?_) | (with_reducible refine size_alloc_le ?_) | (with_reducible refine size_set_le ?_) | (with_reducible refine size_drewN_le ?_) | go_size))⟩
  · rw [hv] at HV
    clear hv
    generalize vrB n m gm lm lf = b at *
    go_enter Tryd.func4, Tryd.ntmps4
    go_wp2_with fail
    refine calls_after (HV.out _ (by (repeat' (first | (with_reducible exact Below.refl _ _) | (with_reducible assumption) | (with_reducible refine Below.alloc ?_ ?_ _) | (with_reducible refine Below.drew ?_) | (with_reducible refine below_drewN ?_ _) | (with_reducible refine Below.setCell ?_ ?_ _) | (with_reducible refine below_after ?_ ?_ _) | (with_reducible refine below_set ?_) | (with_reducible refine After.size_le _ ?_) | (with_reducible refine size_alloc_le ?_) | (with_reducible refine size_set_le ?_) | (with_reducible refine size_drewN_le ?_) | go_size)))) ?_
    intro x1
    go_wp2_with fail
    refine calls_after2 (HR.out _ (by (repeat' (first | (with_reducible exact Below.refl _ _) | (with_reducible assumption) | (with_reducible refine Below.alloc ?_ ?_ _) | (with_reducible refine Below.drew ?_) | (with_reducible refine below_drewN ?_ _) | (with_reducible refine Below.setCell ?_ ?_ _) | (with_reducible refine below_after ?_ ?_ _) | (with_reducible refine below_set ?_) | (with_reducible refine After.size_le _ ?_) | (with_reducible refine size_alloc_le ?_) | (with_reducible refine size_set_le ?_) | (with_reducible refine size_drewN_le ?_) | go_size)))) ?_
    intro x2
    go_wp2
    go_ret
    exact ⟨rfl, by (repeat' (first | (with_reducible exact Below.refl _ _) | (with_reducible assumption) | (with_reducible refine Below.alloc ?_ ?_ _) | (with_reducible refine Below.drew ?_) | (with_reducible refine below_drewN ?_ _) | (with_reducible refine Below.setCell ?_ ?_ _) | (with_reducible refine below_after ?_ ?_ _) | (with_reducible refine below_set ?_) | (with_reducible refine After.size_le _ ?_) | (with_reducible refine size_alloc_le ?_) | (with_reducible refine size_set_le ?_) | (with_reducible refine size_drewN_le ?_) | go_size))⟩
end
end Go.Proofs.YteojmhfocdlnoaaDoor.Tr
