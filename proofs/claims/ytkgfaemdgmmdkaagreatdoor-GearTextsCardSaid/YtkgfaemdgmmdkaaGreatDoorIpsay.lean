/- What Parse, Format and items of gear say in every later world. many of the laws of layer 7. The chapter's examples. -/
import Derived.Test.YtkgfaemdgmmdkaaGreatDoorGxGsr
import Derived.Test.YtkgfaemdgmmdkaaGreatDoorGxGen
import Derived.Test.YtkgfaemdgmmdkaaGreatDoorIpp
import Derived.Test.YtkgfaemdgmmdkaaGreatDoorIpf
namespace Go.Proofs.YtkgfaemdgmmdkaaGreatDoor.Gx
open Go.Proofs.YtkgfaemdgmmdkaaGreatDoor
open Go.RowKit
attribute [local go_sem] After.cell After.frozen After.lt After.le After.ne After.ne' After.set_eq After.size_set After.lt_add tx_size tx_toList

def agm : Nat → List UInt8 | 0 => [98, 101, 97, 109] | 1 => [111, 110, 101] | _ => [116, 119, 111]
def agl : Nat → Int | 0 => 10000 | 1 => 3000 | _ => 8000
def agd : Nat → Int := fun _ => 0
def agb : Nat → List UInt8 := fun _ => [97]
def alf : Nat → Int | 0 => -1 | _ => 0
theorem aw_ok : (vgB 3 agm agl agd agb && vrB 3 3 agm agm alf) = true := by
  rw [vgB_true, vrB_true]
  · rfl
  · refine ⟨⟨by omega, by omega⟩, fun i hi => ?_⟩
    rcases (show i = 0 ∨ i = 1 ∨ i = 2 by omega) with rfl | rfl | rfl
    all_goals exact ⟨by decide +kernel, by decide +kernel, by decide +kernel⟩
  · refine ⟨by omega, fun i hi => ?_⟩
    rcases (show i = 0 ∨ i = 1 ∨ i = 2 by omega) with rfl | rfl | rfl
    · exact ⟨by decide +kernel, fun j hj => by omega⟩
    · exact ⟨by decide +kernel, fun j hj => by obtain rfl : j = 0 := by omega
                                               decide +kernel⟩
    · exact ⟨by decide +kernel, fun j hj => by rcases (show j = 0 ∨ j = 1 by omega) with rfl | rfl <;> decide +kernel⟩
theorem aw_sh : shL 3 agm agm agl 3 alf = [3000, 7000] := by decide +kernel
theorem aw_mo : moN 3 agm agm agl 3 alf 1 = 3000 := by decide +kernel
theorem aw_en : enB 3 alf 1 = true := by decide +kernel
theorem aw_sht {g : Nat → List UInt8} {n : Nat} (h : ∀ k, (g k).length ≤ 4) : Sht n g := fun k _ => by have := h k; omega
theorem aw_m4 : ∀ k, (agm k).length ≤ 4 := fun k => by match k with | 0 => decide | 1 => decide | _ + 2 => exact (by decide : [116, 119, 111].length ≤ 4)
theorem aw_b4 : ∀ k, (agb k).length ≤ 4 := fun k => (by decide : [97].length ≤ 4)
theorem aw_mem (w : World) : ItAt ((w.alloc (.cells #[.string { data := #[98, 101, 97, 109] }, .int .i64 10000, .int .i64 0, .string { data := #[97] }, .string { data := #[111, 110, 101] }, .int .i64 3000, .int .i64 0, .string { data := #[97] }, .string { data := #[116, 119, 111] }, .int .i64 8000, .int .i64 0, .string { data := #[97] }] 33)).alloc (.cells #[.string { data := #[98, 101, 97, 109] }, .int .i64 (-1), .string { data := #[111, 110, 101] }, .int .i64 0, .string { data := #[116, 119, 111] }, .int .i64 0] 35)) (some ⟨w.heap.size, 0, none⟩) 3 agm agl agd agb ∧
    LkAt ((w.alloc (.cells #[.string { data := #[98, 101, 97, 109] }, .int .i64 10000, .int .i64 0, .string { data := #[97] }, .string { data := #[111, 110, 101] }, .int .i64 3000, .int .i64 0, .string { data := #[97] }, .string { data := #[116, 119, 111] }, .int .i64 8000, .int .i64 0, .string { data := #[97] }] 33)).alloc (.cells #[.string { data := #[98, 101, 97, 109] }, .int .i64 (-1), .string { data := #[111, 110, 101] }, .int .i64 0, .string { data := #[116, 119, 111] }, .int .i64 0] 35)) (some ⟨w.heap.size + 1, 0, none⟩) 3 agm alf := by
  constructor
  · intro k hk
    refine ⟨w.heap.size, 0, rfl, by simp; omega, ?_, ?_, ?_, ?_⟩
    all_goals (rcases (show k = 0 ∨ k = 1 ∨ k = 2 by omega) with rfl | rfl | rfl)
    all_goals simp [go_sem, agm, agl, agd, agb, tx]
  · intro k hk
    refine ⟨w.heap.size + 1, 0, rfl, by simp, ?_, ?_⟩
    all_goals (rcases (show k = 0 ∨ k = 1 ∨ k = 2 by omega) with rfl | rfl | rfl)
    all_goals simp [go_sem, agm, alf, tx]
set_option maxRecDepth 100000 in
set_option maxHeartbeats 2000000 in
theorem awake_any (w : World) :
    Calls Tryz.prog 4 #[] w fun e w' => e = .returned (.bool true) ∧ Below w.heap.size w w' := by
  have HG : Hid (∀ W b c, ItAt W (some ⟨b, 0, none⟩) 3 agm agl agd agb → LkAt W (some ⟨c, 0, none⟩) 3 agm alf → Calls Tryz.prog 12 #[.slice (some ⟨b, 0, none⟩) 3 3, .slice (some ⟨c, 0, none⟩) 3 3] W fun e w' => e = .returned (.tuple #[.int .i64 10000, .int .i64 0]) ∧ Below W.heap.size W w') := Lib.hid fun W b c h1 h2 => by
    have := greatest_say (some ⟨b, 0, none⟩) 3 3 agm agl agd agb (some ⟨c, 0, none⟩) 3 3 agm alf W h1 h2 (by omega) (by omega) (by omega) (aw_sht aw_m4) (aw_sht aw_b4) (aw_sht aw_m4)
    rw [aw_ok, aw_sh] at this
    exact this
  have HS : Hid (∀ W b c, ItAt W (some ⟨b, 0, none⟩) 3 agm agl agd agb → LkAt W (some ⟨c, 0, none⟩) 3 agm alf → Calls Tryz.prog 13 #[.slice (some ⟨b, 0, none⟩) 3 3, .slice (some ⟨c, 0, none⟩) 3 3] W fun e w' => (∃ v, e = .returned (.tuple #[v, .int .i64 0]) ∧ ZAt w' v [3000, 7000]) ∧ Below W.heap.size W w') := Lib.hid fun W b c h1 h2 => by
    have := shares_say (some ⟨b, 0, none⟩) 3 3 agm agl agd agb (some ⟨c, 0, none⟩) 3 3 agm alf W h1 h2 (by omega) (by omega) (by omega) (aw_sht aw_m4) (aw_sht aw_b4) (aw_sht aw_m4)
    rw [aw_ok, aw_sh] at this
    exact this
  have HM : Hid (∀ W b c, ItAt W (some ⟨b, 0, none⟩) 3 agm agl agd agb → LkAt W (some ⟨c, 0, none⟩) 3 agm alf → Calls Tryz.prog 14 #[.slice (some ⟨b, 0, none⟩) 3 3, .slice (some ⟨c, 0, none⟩) 3 3, .int .i64 1] W fun e w' => e = .returned (.tuple #[.int .i64 3000, .int .i64 0]) ∧ Below W.heap.size W w') := Lib.hid fun W b c h1 h2 => by
    have := most_ok (some ⟨b, 0, none⟩) 3 3 agm agl agd agb (some ⟨c, 0, none⟩) 3 3 agm alf W h1 h2 (by omega) (by omega) (by omega) (aw_sht aw_m4) (aw_sht aw_b4) (aw_sht aw_m4) aw_ok 1 (by omega) aw_en
    rw [aw_mo] at this
    exact this
  go_enter Tryz.func4, Tryz.ntmps4
  go_wp2_with fail
  obtain ⟨hI, hLk⟩ := aw_mem w
  have HB := Lib.hid (show Below w.heap.size w ((w.alloc (.cells #[.string { data := #[98, 101, 97, 109] }, .int .i64 10000, .int .i64 0, .string { data := #[97] }, .string { data := #[111, 110, 101] }, .int .i64 3000, .int .i64 0, .string { data := #[97] }, .string { data := #[116, 119, 111] }, .int .i64 8000, .int .i64 0, .string { data := #[97] }] 33)).alloc (.cells #[.string { data := #[98, 101, 97, 109] }, .int .i64 (-1), .string { data := #[111, 110, 101] }, .int .i64 0, .string { data := #[116, 119, 111] }, .int .i64 0] 35)) by (repeat' (first | (with_reducible exact Below.refl _ _) | (with_reducible assumption) | (with_reducible refine Below.alloc ?_ ?_ _) | (with_reducible refine Below.drew ?_) | (with_reducible refine below_drewN ?_ _) | (with_reducible refine Below.setCell ?_ ?_ _) | (with_reducible refine below_after ?_ ?_ _) | (with_reducible refine below_set ?_) | (with_reducible refine After.size_le _ ?_) | (with_reducible refine size_alloc_le ?_) | (with_reducible refine size_set_le ?_) | (with_reducible refine size_drewN_le ?_) | go_size)))
  have HI := Lib.hid hI
  have HK := Lib.hid hLk
  clear hI hLk
  generalize ((w.alloc (.cells #[.string { data := #[98, 101, 97, 109] }, .int .i64 10000, .int .i64 0, .string { data := #[97] }, .string { data := #[111, 110, 101] }, .int .i64 3000, .int .i64 0, .string { data := #[97] }, .string { data := #[116, 119, 111] }, .int .i64 8000, .int .i64 0, .string { data := #[97] }] 33)).alloc (.cells #[.string { data := #[98, 101, 97, 109] }, .int .i64 (-1), .string { data := #[111, 110, 101] }, .int .i64 0, .string { data := #[116, 119, 111] }, .int .i64 0] 35)) = W1 at *
  refine (HG.out _ _ _ HI.out HK.out).mono ?_
  rintro e w2 ⟨rfl, hb2⟩
  have HB2 := Lib.hid (HB.out.trans (hb2.mono HB.out.size))
  have HI2 := Lib.hid (HI.out.on hb2)
  have HK2 := Lib.hid (HK.out.on hb2)
  clear hb2 HB HI HK HG
  go_wp2_with fail
  refine (HS.out _ _ _ HI2.out HK2.out).mono ?_
  rintro e w3 ⟨⟨v, rfl, hZ⟩, hb3⟩
  have HB3 := Lib.hid (HB2.out.trans (hb3.mono HB2.out.size))
  have HI3 := Lib.hid (HI2.out.on hb3)
  have HK3 := Lib.hid (HK2.out.on hb3)
  have HZ := Lib.hid hZ
  clear hb3 HB2 HI2 HK2 HS hZ
  go_wp2_with fail
  refine (HM.out _ _ _ HI3.out HK3.out).mono ?_
  rintro e w4 ⟨rfl, hb4⟩
  have HB4 := Lib.hid (HB3.out.trans (hb4.mono HB3.out.size))
  have HZ4 := Lib.hid (HZ.out.on hb4)
  clear hb4 HB3 HI3 HK3 HM HZ
  have HL1 : Hid (∀ b W, W.cell? ⟨b, 0, none⟩ = some (.int .i64 3000) → W.cell? ⟨b, 1, none⟩ = some (.int .i64 7000) → ZAt W (.slice (some ⟨b, 0, none⟩) 2 2) [3000, 7000]) := Lib.hid fun b W h0 h1 => ⟨_, _, rfl, fun i hi => by
    rcases (show i = 0 ∨ i = 1 by simp at hi; omega) with rfl | rfl
    · exact ⟨b, 0, rfl, World.block_lt_of_cell? W _ h0, by simpa using h0⟩
    · exact ⟨b, 0, rfl, World.block_lt_of_cell? W _ h0, by simpa using h1⟩⟩
  have HQ := Lib.hid (sameZ_any (w := w4.alloc (.cells #[.int .i64 3000, .int .i64 7000] 3)) (HZ4.out.on ((Below.refl _ _).alloc (Nat.le_refl _) _)) (HL1.out w4.heap.size _ (by simp [go_sem]) (by simp [go_sem])) (by simp))
  go_wp2_with (go_at_call 15; refine HQ.out.mono ?_; rintro e w5 ⟨rfl, hb5⟩; have HB5 := Lib.hid (Below.trans (HB4.out.alloc HB4.out.size (.cells #[.int .i64 3000, .int .i64 7000] 3)) (hb5.mono (by have := HB4.out.size; simp; omega))); clear hb5)
  go_ret
  exact ⟨rfl, HB5.out⟩
end Go.Proofs.YtkgfaemdgmmdkaaGreatDoor.Gx
namespace Go.Proofs.YtkgfaemdgmmdkaaGreatDoor.Gx
open Go.Proofs.YtkgfaemdgmmdkaaGreatDoor
open Go.RowKit
attribute [local go_sem] After.cell After.frozen After.lt After.le After.ne After.ne' After.set_eq After.size_set After.lt_add tx_size tx_toList

/-- What many answers. -/
def MnR (n m : Nat) (e : Ending) : Prop := ∃ b, e = .returned (.bool b) ∧ (b = false → n ≤ 80 ∧ m ≤ 40)
set_option maxRecDepth 100000 in
set_option maxHeartbeats 2000000 in
theorem many_any (a : Option Addr) (n cap : Nat) (gm : Nat → List UInt8) (gl gd : Nat → Int) (gb : Nat → List UInt8) (al : Option Addr) (m capl : Nat) (lm : Nat → List UInt8) (lf : Nat → Int) (w : World) (hA : ItAt w a n gm gl gd gb) (hL : LkAt w al m lm lf) (hn : n ≤ 9223372036854775807) (hm : m ≤ 9223372036854775807) :
    Calls Tryz.prog 5 #[.slice a n cap, .slice al m capl] w fun e w' => MnR n m e ∧ Below w.heap.size w w' := by
  have hnI : (n : Int) ≤ 9223372036854775807 := by omega
  have hmI : (m : Int) ≤ 9223372036854775807 := by omega
  have HA := Lib.hid hA
  have HL := Lib.hid hL
  clear hA hL
  go_enter Tryz.func5, Tryz.ntmps5
  go_wp2
  go_loopw [5, 6] (fun s i W => ∃ (k : Nat) (x : Int), k ≤ n ∧ i = .int .i64 k ∧ s = .int .i64 x ∧ ∃ y : After w, W = y.w) (fun _ i _ => n - (intOf i).toNat)
  case atStart => exact ⟨0, 0, Nat.zero_le _, rfl, rfl, ⟨w, Below.refl _ _⟩, rfl⟩
  case round =>
    obtain ⟨k, x, hk, rfl, rfl, y, rfl⟩ := hrel
    by_cases hlt : k < n
    · have hlti : (k : Int) < (n : Int) := by omega
      obtain ⟨b, off, rfl, hb, c0, c1, c2, c3⟩ := HA.out k hlt
      generalize gm k = s0 at *
      generalize gb k = s3 at *
      go_wp2
      refine wp_region_after (by kernel_rfl) (by kernel_rfl) ?_; (repeat (first | go_big_quiet_step ((fail)) | (refine wpQuiet_step (fun K hK => ?_); go_simp; first | (refine hK _ ?_; clear hK K) | (apply Exists.intro; refine ⟨fun x => ?_, hK _ ?_⟩; (fail); clear hK K)))); refine wpQuiet_nil ?_
      intro y2
      go_wp2
      go_roundw
      case rel => exact ⟨k + 1, _, by omega, by go_num, rfl, ⟨_, y.out.trans (y2.out.mono y.out.size)⟩, rfl⟩
      case measure => simp [intOf]; omega
    · obtain rfl : k = n := by omega
      go_wp2
      go_loopw [5, 7] (fun s i W => ∃ (t : Nat) (x : Int), t ≤ m ∧ i = .int .i64 t ∧ s = .int .i64 x ∧ ∃ y : After w, W = y.w) (fun _ i _ => m - (intOf i).toNat)
      case atStart => exact ⟨0, x, Nat.zero_le _, rfl, rfl, y, rfl⟩
      case round =>
        obtain ⟨t, x2, ht, rfl, rfl, y2, rfl⟩ := hrel
        by_cases hlt2 : t < m
        · have hlti2 : (t : Int) < (m : Int) := by omega
          obtain ⟨b, off, rfl, hb, c0, c1⟩ := HL.out t hlt2
          generalize lm t = s0 at *
          go_wp2
          go_roundw
          case rel => exact ⟨t + 1, _, by omega, by go_num, rfl, y2, rfl⟩
          case measure => simp [intOf]; omega
        · obtain rfl : t = m := by omega
          by_cases h1 : (80 : Int) < (k : Int)
          · go_wp2
            go_returns
            exact ⟨⟨true, rfl, fun h => by cases h⟩, by (repeat' (first | (with_reducible exact Below.refl _ _) | (with_reducible assumption) | (with_reducible refine Below.alloc ?_ ?_ _) | (with_reducible refine Below.drew ?_) | (with_reducible refine below_drewN ?_ _) | (with_reducible refine Below.setCell ?_ ?_ _) | (with_reducible refine below_after ?_ ?_ _) | (with_reducible refine below_set ?_) | (with_reducible refine After.size_le _ ?_) | (with_reducible refine size_alloc_le ?_) | (with_reducible refine size_set_le ?_) | (with_reducible refine size_drewN_le ?_) | go_size))⟩
          · by_cases h2 : (40 : Int) < (t : Int)
            · go_wp2
              go_returns
              exact ⟨⟨true, rfl, fun h => by cases h⟩, by (repeat' (first | (with_reducible exact Below.refl _ _) | (with_reducible assumption) | (with_reducible refine Below.alloc ?_ ?_ _) | (with_reducible refine Below.drew ?_) | (with_reducible refine below_drewN ?_ _) | (with_reducible refine Below.setCell ?_ ?_ _) | (with_reducible refine below_after ?_ ?_ _) | (with_reducible refine below_set ?_) | (with_reducible refine After.size_le _ ?_) | (with_reducible refine size_alloc_le ?_) | (with_reducible refine size_set_le ?_) | (with_reducible refine size_drewN_le ?_) | go_size))⟩
            · go_wp2
              all_goals
                go_returns
                exact ⟨⟨_, rfl, fun _ => ⟨by omega, by omega⟩⟩, by (repeat' (first | (with_reducible exact Below.refl _ _) | (with_reducible assumption) | (with_reducible refine Below.alloc ?_ ?_ _) | (with_reducible refine Below.drew ?_) | (with_reducible refine below_drewN ?_ _) | (with_reducible refine Below.setCell ?_ ?_ _) | (with_reducible refine below_after ?_ ?_ _) | (with_reducible refine below_set ?_) | (with_reducible refine After.size_le _ ?_) | (with_reducible refine size_alloc_le ?_) | (with_reducible refine size_set_le ?_) | (with_reducible refine size_drewN_le ?_) | go_size))⟩
end Go.Proofs.YtkgfaemdgmmdkaaGreatDoor.Gx
namespace Go.Proofs.YtkgfaemdgmmdkaaGreatDoor.Gx
open Go.Proofs.YtkgfaemdgmmdkaaGreatDoor
open Go.RowKit
attribute [local go_sem] After.cell After.frozen After.lt After.le After.ne After.ne' After.set_eq After.size_set After.lt_add tx_size tx_toList

set_option maxRecDepth 100000 in
set_option maxHeartbeats 1000000 in
theorem itemsI_any (a a2 : Option Addr) (n cap cap2 : Nat) (gm : Nat → List UInt8) (gl gd : Nat → Int) (gb : Nat → List UInt8) (w : World) (h1 : ItAt w a n gm gl gd gb) (h2 : ItAt w a2 n gm gl gd gb) (hn : n ≤ 1000) :
    Calls Tryz.prog 10 #[.slice a n cap, .slice a2 n cap2] w fun e w' => e = .returned (.bool true) ∧ Below w.heap.size w w' := by
  have hnI : ((n : Nat) : Int) ≤ 1000 := by omega
  have H1 := Lib.hid h1
  have H2 := Lib.hid h2
  clear h1 h2
  go_enter Tryz.func10, Tryz.ntmps10
  go_wp2
  go_loopw [5] (fun i W => ∃ k : Nat, k ≤ n ∧ i = .int .i64 k ∧ ∃ x : After w, W = x.w) (fun i _ => n - (intOf i).toNat)
  case atStart => exact ⟨0, Nat.zero_le _, rfl, ⟨w, Below.refl _ _⟩, rfl⟩
  case round =>
    obtain ⟨k, hk, rfl, x, rfl⟩ := hrel
    by_cases hlt : k < n
    · have hlti : (k : Int) < (n : Int) := by omega
      obtain ⟨b, off, rfl, hb, c0, c1, c2, c3⟩ := H1.out k hlt
      obtain ⟨b2, off2, rfl, hb2, d0, d1, d2, d3⟩ := H2.out k hlt
      generalize gm k = z0 at *
      generalize gl k = z1 at *
      generalize gd k = z2 at *
      generalize gb k = z3 at *
      go_wp2
      refine wp_region_after (by kernel_rfl) (by kernel_rfl) ?_; (repeat (first | go_big_quiet_step ((fail)) | (refine wpQuiet_step (fun K hK => ?_); go_simp; first | (refine hK _ ?_; clear hK K) | (apply Exists.intro; refine ⟨fun x => ?_, hK _ ?_⟩; (fail); clear hK K)))); refine wpQuiet_nil ?_
      intro y
      go_wp2
      go_roundw
      case rel => exact ⟨k + 1, by omega, by go_num, ⟨_, x.out.trans (y.out.mono x.out.size)⟩, rfl⟩
      case measure => simp [intOf]; omega
    · obtain rfl : k = n := by omega
      go_wp2
      go_ret
      exact ⟨rfl, by (repeat' (first | (with_reducible exact Below.refl _ _) | (with_reducible assumption) | (with_reducible refine Below.alloc ?_ ?_ _) | (with_reducible refine Below.drew ?_) | (with_reducible refine below_drewN ?_ _) | (with_reducible refine Below.setCell ?_ ?_ _) | (with_reducible refine below_after ?_ ?_ _) | (with_reducible refine below_set ?_) | (with_reducible refine After.size_le _ ?_) | (with_reducible refine size_alloc_le ?_) | (with_reducible refine size_set_le ?_) | (with_reducible refine size_drewN_le ?_) | go_size))⟩
theorem items_i {w : World} {a a2 : Option Addr} {ps : List It} (h : IAt w a ps) (h' : IAt w a2 ps) (hn : ps.length ≤ 1000) (cap cap2 : Nat) :
    Calls Tryz.prog 10 #[.slice a ps.length cap, .slice a2 ps.length cap2] w fun e w' => e = .returned (.bool true) ∧ Below w.heap.size w w' :=
  itemsI_any a a2 ps.length cap cap2 _ _ _ _ w h h' hn
theorem pansI_whole {W : World} {B : Nat} {ls : List (List UInt8)} {x : Ending} {ps : List It} (h : PAnsI W B ls x) (hw : WholeI ls ps) : ∃ v, x = .returned (.tuple #[v, .int .i64 0, .int .i64 0]) ∧ W.ownsRow B 33 4 v ps.length (icv ps) := by
  rcases h with ⟨qs, v, h1, rfl, h3⟩ | ⟨k', h1, _⟩
  · obtain rfl := wholeI_same h1 hw
    exact ⟨v, rfl, h3⟩
  · exact (wholeI_stops hw h1).elim
theorem pansI_stops {W : World} {B : Nat} {ls : List (List UInt8)} {x : Ending} {k : Nat} (h : PAnsI W B ls x) (hs : StopsI ls k) : x = .returned (.tuple #[.slice none 0 0, .int .i64 k, .int .i64 2]) := by
  rcases h with ⟨qs, v, h1, _⟩ | ⟨k', h1, rfl⟩
  · exact (wholeI_stops h1 hs).elim
  · rw [stopsI_same h1 hs]
/-- A Parse that reads items. -/
def ReadsI (w' : World) (ps : List It) (e : Ending) : Prop := ∃ a cap, e = .returned (.tuple #[.slice a ps.length cap, .int .i64 0, .int .i64 0]) ∧ IAt w' a ps
theorem readsI_of {W : World} {B : Nat} {ls : List (List UInt8)} {x : Ending} {ps : List It} (h : PAnsI W B ls x) (hw : WholeI ls ps) : ReadsI W ps x := by
  obtain ⟨v, h3, h4⟩ := pansI_whole h hw
  obtain ⟨a, cap, rfl, _, h5⟩ := iat_row h4
  exact ⟨a, cap, h3, h5⟩
theorem parseI_whole {L : List UInt8} {w : World} {ps : List It} (hL : L.length ≤ 65536) (hS : Std w) (hw : WholeI (wordsL 10 L) ps) : ∀ W, Below w.heap.size w W →
    Calls Tryz.prog 7 #[.string (tx L)] W fun e w' => ReadsI w' ps e ∧ Below W.heap.size W w' := fun W hW =>
  (parseI_any L W hL (hS.on hW)).mono fun _ _ ⟨⟨_, h⟩, h2⟩ => ⟨readsI_of h hw, h2⟩
theorem rparseI_whole {L : List UInt8} {w : World} {ps : List It} (hL : L.length ≤ 65536) (hw : WholeI (wordsL 10 L) ps) : ∀ W, Below w.heap.size w W →
    Calls Tryz.prog 8 #[.string (tx L)] W fun e w' => ReadsI w' ps e ∧ Below W.heap.size W w' := fun W _ =>
  (rparseI_any L W hL).mono fun _ _ ⟨⟨_, h⟩, h2⟩ => ⟨readsI_of h hw, h2⟩
def NoTextI (w : World) (L : List UInt8) (k : Int) : Prop :=
  (∀ W, Below w.heap.size w W → Calls Tryz.prog 7 #[.string (tx L)] W fun e w' => e = .returned (.tuple #[.slice none 0 0, .int .i64 k, .int .i64 2]) ∧ Below W.heap.size W w') ∧
  (∀ W, Below w.heap.size w W → Calls Tryz.prog 8 #[.string (tx L)] W fun e w' => e = .returned (.tuple #[.slice none 0 0, .int .i64 k, .int .i64 2]) ∧ Below W.heap.size W w')
theorem noTextI_stops {L : List UInt8} {w : World} {k : Nat} (hL : L.length ≤ 65536) (hS : Std w) (hs : StopsI (wordsL 10 L) k) : NoTextI w L k :=
  ⟨fun W hW => (parseI_any L W hL (hS.on hW)).mono fun _ _ ⟨⟨_, h⟩, h2⟩ => ⟨pansI_stops h hs, h2⟩, fun W _ => (rparseI_any L W hL).mono fun _ _ ⟨⟨_, h⟩, h2⟩ => ⟨pansI_stops h hs, h2⟩⟩
theorem noTextI_none {L : List UInt8} {w : World} (hL : L.length ≤ 65536) (hS : Std w) (h1 : ¬ ∃ ps, WholeI (wordsL 10 L) ps) (h2 : ¬ ∃ k, StopsI (wordsL 10 L) k) : NoTextI w L 0 :=
  ⟨fun W hW => (parseI_any L W hL (hS.on hW)).mono fun _ _ ⟨⟨_, h⟩, _⟩ => by
      rcases h with ⟨ps, _, h, _⟩ | ⟨k, h, _⟩
      · exact (h1 ⟨ps, h⟩).elim
      · exact (h2 ⟨k, h⟩).elim,
    fun W _ => (rparseI_any L W hL).mono fun _ _ ⟨⟨_, h⟩, _⟩ => by
      rcases h with ⟨ps, _, h, _⟩ | ⟨k, h, _⟩
      · exact (h1 ⟨ps, h⟩).elim
      · exact (h2 ⟨k, h⟩).elim⟩
theorem textI_or {w : World} (L : List UInt8) (hL : L.length ≤ 65536) (hS : Std w) : (∃ ps, WholeI (wordsL 10 L) ps) ∨ ∃ k, NoTextI w L k := by
  by_cases h1 : ∃ ps, WholeI (wordsL 10 L) ps
  · exact .inl h1
  · by_cases h2 : ∃ k, StopsI (wordsL 10 L) k
    · obtain ⟨k, h⟩ := h2
      exact .inr ⟨_, noTextI_stops hL hS h⟩
    · exact .inr ⟨_, noTextI_none hL hS h1 h2⟩
/-- Format of gear, good or bad. -/
noncomputable def formS (ps : List It) : List UInt8 := if gB ps = true then formI ps else []
theorem formatI_say {w : World} {a : Option Addr} {cap : Nat} {ps : List It} (h : IAt w a ps) (hl : ps.length ≤ 1000) (hs : ShI ps) (hS : Std w) : ∀ W, Below w.heap.size w W →
    Calls Tryz.prog 6 #[.slice a ps.length cap] W fun e w' => e = .returned (.string (tx (formS ps))) ∧ Below W.heap.size W w' := fun W hW => by
  unfold formS
  cases hG : gB ps
  · rw [if_neg (by simp)]
    refine formatI_bad _ W fun X hX => ?_
    have := valid_i (cap := cap) h hl hs X (hW.trans (hX.mono hW.size))
    rwa [hG] at this
  · rw [if_pos rfl]
    exact formatI_ok a cap ps W (h.on hW) (gB_good.1 hG) (hS.on hW)
theorem rformatI_say {w : World} {a : Option Addr} {cap : Nat} {ps : List It} (h : IAt w a ps) (hl : ps.length ≤ 1000) (hs : ShI ps) : ∀ W, Below w.heap.size w W →
    Calls Tryz.prog 9 #[.slice a ps.length cap] W fun e w' => e = .returned (.string (tx (formS ps))) ∧ Below W.heap.size W w' := fun W hW => by
  unfold formS
  cases hG : gB ps
  · rw [if_neg (by simp)]
    refine rformatI_bad _ W fun X hX => ?_
    have := rvalid_i (cap := cap) h hl hs X (hW.trans (hX.mono hW.size))
    rwa [hG] at this
  · rw [if_pos rfl]
    exact rformatI_ok a cap ps W (h.on hW) (gB_good.1 hG)
/-- A list out of functions. -/
def itsOf (n : Nat) (gm : Nat → List UInt8) (gl gd : Nat → Int) (gb : Nat → List UInt8) : List It := (List.range n).map fun i => (gm i, gl i, gd i, gb i)
theorem its_len (n : Nat) (gm : Nat → List UInt8) (gl gd : Nat → Int) (gb : Nat → List UInt8) : (itsOf n gm gl gd gb).length = n := by simp [itsOf]
theorem its_get {n : Nat} {gm : Nat → List UInt8} {gl gd : Nat → Int} {gb : Nat → List UInt8} {k : Nat} (hk : k < n) : (itsOf n gm gl gd gb).getD k it0 = (gm k, gl k, gd k, gb k) := by
  rw [List.getD_eq_getElem?_getD, itsOf, List.getElem?_map, List.getElem?_range hk]
  rfl
theorem its_at {W : World} {a : Option Addr} {n : Nat} {gm : Nat → List UInt8} {gl gd : Nat → Int} {gb : Nat → List UInt8} (h : ItAt W a n gm gl gd gb) : IAt W a (itsOf n gm gl gd gb) := fun k hk => by
  rw [its_len] at hk
  obtain ⟨b, off, e, h0, h1, h2, h3, h4⟩ := h k hk
  refine ⟨b, off, e, h0, ?_, ?_, ?_, ?_⟩
  · unfold iM; rw [its_get hk]; exact h1
  · unfold iL; rw [its_get hk]; exact h2
  · unfold iD; rw [its_get hk]; exact h3
  · unfold iB; rw [its_get hk]; exact h4
theorem its_sh {n : Nat} {gm : Nat → List UInt8} {gl gd : Nat → Int} {gb : Nat → List UInt8} (h : Sht n gm) (h' : Sht n gb) : ShI (itsOf n gm gl gd gb) := by
  refine ⟨fun k hk => ?_, fun k hk => ?_⟩
  · rw [its_len] at hk
    unfold iM; rw [its_get hk]; exact h k hk
  · rw [its_len] at hk
    unfold iB; rw [its_get hk]; exact h' k hk
end Go.Proofs.YtkgfaemdgmmdkaaGreatDoor.Gx
