/- The faults of a link, found in its item and what it bears: the closures. -/
import Derived.Test.YteojmhfocdlnoaaDoorTrGst
import Derived.Test.YteojmhfocdlnoaaDoorTrGle
namespace Go.Proofs.YteojmhfocdlnoaaDoor.Tr
open Go.Proofs.YteojmhfocdlnoaaDoor
open Go.RowKit
attribute [local go_sem] After.cell After.frozen After.lt After.le After.ne After.ne' After.set_eq After.size_set After.lt_add tx_size tx_toList

set_option maxRecDepth 100000 in
set_option maxHeartbeats 2000000 in
theorem weak11_1 (Bo Bi Bb : Nat) (al a2 ab : Option Addr) (m capl c2 cb i : Nat) (gm : Nat → List UInt8) (gl gd : Nat → Int) (gb : Nat → List UInt8) (bo : Nat → Int) (day : Int) (Bd : Nat) (w : World) (ho : w.cell? ⟨Bo, 1, none⟩ = some (.slice a2 m c2)) (hi : w.cell? ⟨Bi, 0, none⟩ = some (.int .i64 (i : Nat))) (hb : w.cell? ⟨Bb, 0, none⟩ = some (.slice ab m cb)) (hI : ItAt w a2 m gm gl gd gb) (hG : GAt w ab m bo) (him : i < m) (hm : m ≤ 1000) (hd : w.cell? ⟨Bd, 0, none⟩ = some (.int .i64 day)) :
    Calls Tryd.prog 34 #[.agg #[.func (.func 43) #[] #[.pointer (some ⟨Bd, 0, none⟩)]], .pointer (some ⟨Bo, 0, none⟩), .pointer (some ⟨Bi, 0, none⟩), .pointer (some ⟨Bb, 0, none⟩)] w fun e w' => e = .returned (.bool (decide (gd i < day))) ∧ Below w.heap.size w w' := by
  have himI : (i : Int) < (m : Int) := by omega
  have hmI : (m : Int) ≤ 1000 := by omega
  obtain ⟨b2, off2, rfl, hb2, p0, p1, p2, p3⟩ := hI i him
  obtain ⟨b3, off3, rfl, hb3, q0⟩ := hG i him
  have hB := ((Below.refl w.heap.size w).alloc (Nat.le_refl _) (.cells #[.func (.func 43) #[] #[.pointer (some ⟨Bd, 0, none⟩)]] 71))
  have HF := Lib.hid (fun W (hW : Below w.heap.size w W) => fault1_any (gm i) (gb i) (gl i) (gd i) (bo i) day Bd W ((hW.cell (p := ⟨Bd, 0, none⟩) (World.block_lt_of_cell? w _ hd)).trans hd))
  have ho := (hB.cell (p := ⟨Bo, 1, none⟩) (World.block_lt_of_cell? w _ ho)).trans ho
  have hi := (hB.cell (p := ⟨Bi, 0, none⟩) (World.block_lt_of_cell? w _ hi)).trans hi
  have hb := (hB.cell (p := ⟨Bb, 0, none⟩) (World.block_lt_of_cell? w _ hb)).trans hb
  have p0 := (hB.cell (p := ⟨b2, off2 + i * 4, none⟩) hb2).trans p0
  have p1 := (hB.cell (p := ⟨b2, off2 + i * 4 + 1, none⟩) hb2).trans p1
  have p2 := (hB.cell (p := ⟨b2, off2 + i * 4 + 2, none⟩) hb2).trans p2
  have p3 := (hB.cell (p := ⟨b2, off2 + i * 4 + 3, none⟩) hb2).trans p3
  have q0 := (hB.cell (p := ⟨b3, off3 + i, none⟩) hb3).trans q0
  have s1 := World.block_lt_of_cell? _ _ ho
  have s2 := World.block_lt_of_cell? _ _ hi
  have s3 := World.block_lt_of_cell? _ _ hb
  have s4 := World.block_lt_of_cell? _ _ p0
  have s5 := World.block_lt_of_cell? _ _ q0
  have s6 : w.heap.size < (w.alloc (.cells #[.func (.func 43) #[] #[.pointer (some ⟨Bd, 0, none⟩)]] 71)).heap.size := by simp
  have t0 : (w.alloc (.cells #[.func (.func 43) #[] #[.pointer (some ⟨Bd, 0, none⟩)]] 71)).cell? ⟨w.heap.size, 0, none⟩ = some (.func (.func 43) #[] #[.pointer (some ⟨Bd, 0, none⟩)]) := by simp [go_sem]
  have HB := Lib.hid hB
  clear hI hG hB
  generalize gm i = z0 at *
  generalize gl i = z1 at *
  generalize gd i = z2 at *
  generalize gb i = z3 at *
  generalize bo i = z4 at *
  go_enter Tryd.func34, Tryd.ntmps34
  go_wp2_with fail
  generalize w.alloc (.cells #[.func (.func 43) #[] #[.pointer (some ⟨Bd, 0, none⟩)]] 71) = W1 at *
  have HF1 := Lib.hid (fun W (hW : Below W1.heap.size W1 W) => HF.out W (HB.out.trans (hW.mono HB.out.size)))
  clear HF
  refine wp_region_after (by kernel_rfl) (by kernel_rfl) ?_; (repeat (first | go_big_quiet_step (((go_at_call 43; exact quiet_after (HF1.out _ (by (repeat' (first | (with_reducible exact Below.refl _ _) | (with_reducible assumption) | (with_reducible refine Below.alloc ?_ ?_ _) | (with_reducible refine Below.drew ?_) | (with_reducible refine below_drewN ?_ _) | (with_reducible refine Below.setCell ?_ ?_ _) | (with_reducible refine below_after ?_ ?_ _) | (with_reducible refine below_set ?_) | (with_reducible refine After.size_le _ ?_) | (with_reducible refine size_alloc_le ?_) | (with_reducible refine size_set_le ?_) | (with_reducible refine size_drewN_le ?_) | go_size))))))) | (refine wpQuiet_step (fun K hK => ?_); go_simp; first | (refine hK _ ?_; clear hK K) | (apply Exists.intro; refine ⟨fun x => ?_, hK _ ?_⟩; ((go_at_call 43; exact quiet_after (HF1.out _ (by (repeat' (first | (with_reducible exact Below.refl _ _) | (with_reducible assumption) | (with_reducible refine Below.alloc ?_ ?_ _) | (with_reducible refine Below.drew ?_) | (with_reducible refine below_drewN ?_ _) | (with_reducible refine Below.setCell ?_ ?_ _) | (with_reducible refine below_after ?_ ?_ _) | (with_reducible refine below_set ?_) | (with_reducible refine After.size_le _ ?_) | (with_reducible refine size_alloc_le ?_) | (with_reducible refine size_set_le ?_) | (with_reducible refine size_drewN_le ?_) | go_size)))))); clear hK K)))); refine wpQuiet_nil ?_
  intro y
  go_wp2
  go_returns
  exact ⟨rfl, HB.out.trans (y.out.mono HB.out.size)⟩
set_option maxRecDepth 100000 in
set_option maxHeartbeats 2000000 in
theorem weak11_2 (Bo Bi Bb : Nat) (al a2 ab : Option Addr) (m capl c2 cb i : Nat) (gm : Nat → List UInt8) (gl gd : Nat → Int) (gb : Nat → List UInt8) (bo : Nat → Int) (Bk : Nat) (ak : Option Addr) (nk ck : Nat) (gs : Nat → List UInt8) (w : World) (ho : w.cell? ⟨Bo, 1, none⟩ = some (.slice a2 m c2)) (hi : w.cell? ⟨Bi, 0, none⟩ = some (.int .i64 (i : Nat))) (hb : w.cell? ⟨Bb, 0, none⟩ = some (.slice ab m cb)) (hI : ItAt w a2 m gm gl gd gb) (hG : GAt w ab m bo) (him : i < m) (hm : m ≤ 1000) (hk : w.cell? ⟨Bk, 0, none⟩ = some (.slice ak nk ck)) (hT : TAt w ak nk gs) (hn : nk ≤ 9223372036854775807) :
    Calls Tryd.prog 34 #[.agg #[.func (.func 44) #[] #[.pointer (some ⟨Bk, 0, none⟩)]], .pointer (some ⟨Bo, 0, none⟩), .pointer (some ⟨Bi, 0, none⟩), .pointer (some ⟨Bb, 0, none⟩)] w fun e w' => e = .returned (.bool ((fdN gs nk (gb i)).isSome)) ∧ Below w.heap.size w w' := by
  have himI : (i : Int) < (m : Int) := by omega
  have hmI : (m : Int) ≤ 1000 := by omega
  obtain ⟨b2, off2, rfl, hb2, p0, p1, p2, p3⟩ := hI i him
  obtain ⟨b3, off3, rfl, hb3, q0⟩ := hG i him
  have hB := ((Below.refl w.heap.size w).alloc (Nat.le_refl _) (.cells #[.func (.func 44) #[] #[.pointer (some ⟨Bk, 0, none⟩)]] 71))
  have HF := Lib.hid (fun W (hW : Below w.heap.size w W) => fault2_any (gm i) (gb i) (gl i) (gd i) (bo i) Bk ak nk ck gs W ((hW.cell (p := ⟨Bk, 0, none⟩) (World.block_lt_of_cell? w _ hk)).trans hk) (hT.on hW) hn)
  have ho := (hB.cell (p := ⟨Bo, 1, none⟩) (World.block_lt_of_cell? w _ ho)).trans ho
  have hi := (hB.cell (p := ⟨Bi, 0, none⟩) (World.block_lt_of_cell? w _ hi)).trans hi
  have hb := (hB.cell (p := ⟨Bb, 0, none⟩) (World.block_lt_of_cell? w _ hb)).trans hb
  have p0 := (hB.cell (p := ⟨b2, off2 + i * 4, none⟩) hb2).trans p0
  have p1 := (hB.cell (p := ⟨b2, off2 + i * 4 + 1, none⟩) hb2).trans p1
  have p2 := (hB.cell (p := ⟨b2, off2 + i * 4 + 2, none⟩) hb2).trans p2
  have p3 := (hB.cell (p := ⟨b2, off2 + i * 4 + 3, none⟩) hb2).trans p3
  have q0 := (hB.cell (p := ⟨b3, off3 + i, none⟩) hb3).trans q0
  have s1 := World.block_lt_of_cell? _ _ ho
  have s2 := World.block_lt_of_cell? _ _ hi
  have s3 := World.block_lt_of_cell? _ _ hb
  have s4 := World.block_lt_of_cell? _ _ p0
  have s5 := World.block_lt_of_cell? _ _ q0
  have s6 : w.heap.size < (w.alloc (.cells #[.func (.func 44) #[] #[.pointer (some ⟨Bk, 0, none⟩)]] 71)).heap.size := by simp
  have t0 : (w.alloc (.cells #[.func (.func 44) #[] #[.pointer (some ⟨Bk, 0, none⟩)]] 71)).cell? ⟨w.heap.size, 0, none⟩ = some (.func (.func 44) #[] #[.pointer (some ⟨Bk, 0, none⟩)]) := by simp [go_sem]
  have HB := Lib.hid hB
  clear hI hG hB
  generalize gm i = z0 at *
  generalize gl i = z1 at *
  generalize gd i = z2 at *
  generalize gb i = z3 at *
  generalize bo i = z4 at *
  go_enter Tryd.func34, Tryd.ntmps34
  go_wp2_with fail
  generalize w.alloc (.cells #[.func (.func 44) #[] #[.pointer (some ⟨Bk, 0, none⟩)]] 71) = W1 at *
  have HF1 := Lib.hid (fun W (hW : Below W1.heap.size W1 W) => HF.out W (HB.out.trans (hW.mono HB.out.size)))
  clear HF
  refine wp_region_after (by kernel_rfl) (by kernel_rfl) ?_; (repeat (first | go_big_quiet_step (((go_at_call 44; exact quiet_after (HF1.out _ (by (repeat' (first | (with_reducible exact Below.refl _ _) | (with_reducible assumption) | (with_reducible refine Below.alloc ?_ ?_ _) | (with_reducible refine Below.drew ?_) | (with_reducible refine below_drewN ?_ _) | (with_reducible refine Below.setCell ?_ ?_ _) | (with_reducible refine below_after ?_ ?_ _) | (with_reducible refine below_set ?_) | (with_reducible refine After.size_le _ ?_) | (with_reducible refine size_alloc_le ?_) | (with_reducible refine size_set_le ?_) | (with_reducible refine size_drewN_le ?_) | go_size))))))) | (refine wpQuiet_step (fun K hK => ?_); go_simp; first | (refine hK _ ?_; clear hK K) | (apply Exists.intro; refine ⟨fun x => ?_, hK _ ?_⟩; ((go_at_call 44; exact quiet_after (HF1.out _ (by (repeat' (first | (with_reducible exact Below.refl _ _) | (with_reducible assumption) | (with_reducible refine Below.alloc ?_ ?_ _) | (with_reducible refine Below.drew ?_) | (with_reducible refine below_drewN ?_ _) | (with_reducible refine Below.setCell ?_ ?_ _) | (with_reducible refine below_after ?_ ?_ _) | (with_reducible refine below_set ?_) | (with_reducible refine After.size_le _ ?_) | (with_reducible refine size_alloc_le ?_) | (with_reducible refine size_set_le ?_) | (with_reducible refine size_drewN_le ?_) | go_size)))))); clear hK K)))); refine wpQuiet_nil ?_
  intro y
  go_wp2
  go_returns
  exact ⟨rfl, HB.out.trans (y.out.mono HB.out.size)⟩
set_option maxRecDepth 100000 in
set_option maxHeartbeats 2000000 in
theorem weak11_3 (Bo Bi Bb : Nat) (al a2 ab : Option Addr) (m capl c2 cb i : Nat) (gm : Nat → List UInt8) (gl gd : Nat → Int) (gb : Nat → List UInt8) (bo : Nat → Int) (w : World) (ho : w.cell? ⟨Bo, 1, none⟩ = some (.slice a2 m c2)) (hi : w.cell? ⟨Bi, 0, none⟩ = some (.int .i64 (i : Nat))) (hb : w.cell? ⟨Bb, 0, none⟩ = some (.slice ab m cb)) (hI : ItAt w a2 m gm gl gd gb) (hG : GAt w ab m bo) (him : i < m) (hm : m ≤ 1000) :
    Calls Tryd.prog 34 #[.agg #[.func (.func 46) #[] #[]], .pointer (some ⟨Bo, 0, none⟩), .pointer (some ⟨Bi, 0, none⟩), .pointer (some ⟨Bb, 0, none⟩)] w fun e w' => e = .returned (.bool (decide (gl i < bo i))) ∧ Below w.heap.size w w' := by
  have himI : (i : Int) < (m : Int) := by omega
  have hmI : (m : Int) ≤ 1000 := by omega
  obtain ⟨b2, off2, rfl, hb2, p0, p1, p2, p3⟩ := hI i him
  obtain ⟨b3, off3, rfl, hb3, q0⟩ := hG i him
  have hB := ((Below.refl w.heap.size w).alloc (Nat.le_refl _) (.cells #[.func (.func 46) #[] #[]] 71))
  have HF := Lib.hid (fun W (hW : Below w.heap.size w W) => fault3_any (gm i) (gb i) (gl i) (gd i) (bo i) W)
  have ho := (hB.cell (p := ⟨Bo, 1, none⟩) (World.block_lt_of_cell? w _ ho)).trans ho
  have hi := (hB.cell (p := ⟨Bi, 0, none⟩) (World.block_lt_of_cell? w _ hi)).trans hi
  have hb := (hB.cell (p := ⟨Bb, 0, none⟩) (World.block_lt_of_cell? w _ hb)).trans hb
  have p0 := (hB.cell (p := ⟨b2, off2 + i * 4, none⟩) hb2).trans p0
  have p1 := (hB.cell (p := ⟨b2, off2 + i * 4 + 1, none⟩) hb2).trans p1
  have p2 := (hB.cell (p := ⟨b2, off2 + i * 4 + 2, none⟩) hb2).trans p2
  have p3 := (hB.cell (p := ⟨b2, off2 + i * 4 + 3, none⟩) hb2).trans p3
  have q0 := (hB.cell (p := ⟨b3, off3 + i, none⟩) hb3).trans q0
  have s1 := World.block_lt_of_cell? _ _ ho
  have s2 := World.block_lt_of_cell? _ _ hi
  have s3 := World.block_lt_of_cell? _ _ hb
  have s4 := World.block_lt_of_cell? _ _ p0
  have s5 := World.block_lt_of_cell? _ _ q0
  have s6 : w.heap.size < (w.alloc (.cells #[.func (.func 46) #[] #[]] 71)).heap.size := by simp
  have t0 : (w.alloc (.cells #[.func (.func 46) #[] #[]] 71)).cell? ⟨w.heap.size, 0, none⟩ = some (.func (.func 46) #[] #[]) := by simp [go_sem]
  have HB := Lib.hid hB
  clear hI hG hB
  generalize gm i = z0 at *
  generalize gl i = z1 at *
  generalize gd i = z2 at *
  generalize gb i = z3 at *
  generalize bo i = z4 at *
  go_enter Tryd.func34, Tryd.ntmps34
  go_wp2_with fail
  generalize w.alloc (.cells #[.func (.func 46) #[] #[]] 71) = W1 at *
  have HF1 := Lib.hid (fun W (hW : Below W1.heap.size W1 W) => HF.out W (HB.out.trans (hW.mono HB.out.size)))
  clear HF
  refine wp_region_after (by kernel_rfl) (by kernel_rfl) ?_; (repeat (first | go_big_quiet_step (((go_at_call 46; exact quiet_after (HF1.out _ (by (repeat' (first | (with_reducible exact Below.refl _ _) | (with_reducible assumption) | (with_reducible refine Below.alloc ?_ ?_ _) | (with_reducible refine Below.drew ?_) | (with_reducible refine below_drewN ?_ _) | (with_reducible refine Below.setCell ?_ ?_ _) | (with_reducible refine below_after ?_ ?_ _) | (with_reducible refine below_set ?_) | (with_reducible refine After.size_le _ ?_) | (with_reducible refine size_alloc_le ?_) | (with_reducible refine size_set_le ?_) | (with_reducible refine size_drewN_le ?_) | go_size))))))) | (refine wpQuiet_step (fun K hK => ?_); go_simp; first | (refine hK _ ?_; clear hK K) | (apply Exists.intro; refine ⟨fun x => ?_, hK _ ?_⟩; ((go_at_call 46; exact quiet_after (HF1.out _ (by (repeat' (first | (with_reducible exact Below.refl _ _) | (with_reducible assumption) | (with_reducible refine Below.alloc ?_ ?_ _) | (with_reducible refine Below.drew ?_) | (with_reducible refine below_drewN ?_ _) | (with_reducible refine Below.setCell ?_ ?_ _) | (with_reducible refine below_after ?_ ?_ _) | (with_reducible refine below_set ?_) | (with_reducible refine After.size_le _ ?_) | (with_reducible refine size_alloc_le ?_) | (with_reducible refine size_set_le ?_) | (with_reducible refine size_drewN_le ?_) | go_size)))))); clear hK K)))); refine wpQuiet_nil ?_
  intro y
  go_wp2
  go_returns
  exact ⟨rfl, HB.out.trans (y.out.mono HB.out.size)⟩
end Go.Proofs.YteojmhfocdlnoaaDoor.Tr
