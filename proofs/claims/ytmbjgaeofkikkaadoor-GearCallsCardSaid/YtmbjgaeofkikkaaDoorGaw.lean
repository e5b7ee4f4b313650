/- The chapter's examples. -/
import Derived.Test.YtmbjgaeofkikkaaDoorGsr
namespace Go.Proofs.YtmbjgaeofkikkaaDoor
open Go.RowKit
attribute [local go_sem] After.cell After.frozen After.lt After.le After.ne After.ne' After.set_eq After.size_set After.lt_add tx_size tx_toList

def agm : Nat → List UInt8 | 0 => [98, 101, 97, 109] | 1 => [111, 110, 101] | _ => [116, 119, 111]
def agl : Nat → Int | 0 => 10000 | 1 => 3000 | _ => 8000
def agd : Nat → Int := fun _ => 0
def agb : Nat → List UInt8 := fun _ => [97]
def alf : Nat → Int | 0 => -1 | _ => 0
theorem aw_ok : (vgB 3 agm agl agd agb && vrB 3 3 agm agm alf) = true := by
  rw [vgB_true, vrB_true]
  · rfl
  · refine ⟨⟨by omega, by omega⟩, fun i hi => ?_⟩
    rcases (show i = 0 ∨ i = 1 ∨ i = 2 by omega) with rfl | rfl | rfl
    all_goals exact ⟨by decide +kernel, by decide +kernel, by decide +kernel⟩
  · refine ⟨by omega, fun i hi => ?_⟩
    rcases (show i = 0 ∨ i = 1 ∨ i = 2 by omega) with rfl | rfl | rfl
    · exact ⟨by decide +kernel, fun j hj => by omega⟩
    · exact ⟨by decide +kernel, fun j hj => by obtain rfl : j = 0 := by omega
                                               decide +kernel⟩
    · exact ⟨by decide +kernel, fun j hj => by rcases (show j = 0 ∨ j = 1 by omega) with rfl | rfl <;> decide +kernel⟩
theorem aw_sh : shL 3 agm agm agl 3 alf = [3000, 7000] := by decide +kernel
theorem aw_mo : moN 3 agm agm agl 3 alf 1 = 3000 := by decide +kernel
theorem aw_en : enB 3 alf 1 = true := by decide +kernel
theorem aw_sht {g : Nat → List UInt8} {n : Nat} (h : ∀ k, (g k).length ≤ 4) : Sht n g := fun k _ => by have := h k; omega
theorem aw_m4 : ∀ k, (agm k).length ≤ 4 := fun k => by match k with | 0 => decide | 1 => decide | _ + 2 => exact (by decide : [116, 119, 111].length ≤ 4)
theorem aw_b4 : ∀ k, (agb k).length ≤ 4 := fun k => (by decide : [97].length ≤ 4)
theorem aw_mem (w : World) : ItAt ((w.alloc (.cells #[.string { data := #[98, 101, 97, 109] }, .int .i64 10000, .int .i64 0, .string { data := #[97] }, .string { data := #[111, 110, 101] }, .int .i64 3000, .int .i64 0, .string { data := #[97] }, .string { data := #[116, 119, 111] }, .int .i64 8000, .int .i64 0, .string { data := #[97] }] 62)).alloc (.cells #[.string { data := #[98, 101, 97, 109] }, .int .i64 (-1), .string { data := #[111, 110, 101] }, .int .i64 0, .string { data := #[116, 119, 111] }, .int .i64 0] 37)) (some ⟨w.heap.size, 0, none⟩) 3 agm agl agd agb ∧
    LkAt ((w.alloc (.cells #[.string { data := #[98, 101, 97, 109] }, .int .i64 10000, .int .i64 0, .string { data := #[97] }, .string { data := #[111, 110, 101] }, .int .i64 3000, .int .i64 0, .string { data := #[97] }, .string { data := #[116, 119, 111] }, .int .i64 8000, .int .i64 0, .string { data := #[97] }] 62)).alloc (.cells #[.string { data := #[98, 101, 97, 109] }, .int .i64 (-1), .string { data := #[111, 110, 101] }, .int .i64 0, .string { data := #[116, 119, 111] }, .int .i64 0] 37)) (some ⟨w.heap.size + 1, 0, none⟩) 3 agm alf := by
  constructor
  · intro k hk
    refine ⟨w.heap.size, 0, rfl, by simp; omega, ?_, ?_, ?_, ?_⟩
    all_goals (rcases (show k = 0 ∨ k = 1 ∨ k = 2 by omega) with rfl | rfl | rfl)
    all_goals simp [go_sem, agm, agl, agd, agb, tx]
  · intro k hk
    refine ⟨w.heap.size + 1, 0, rfl, by simp, ?_, ?_⟩
    all_goals (rcases (show k = 0 ∨ k = 1 ∨ k = 2 by omega) with rfl | rfl | rfl)
    all_goals simp [go_sem, agm, alf, tx]
set_option maxRecDepth 100000 in
set_option maxHeartbeats 2000000 in
theorem awake_any (w : World) :
    Calls Tryd.prog 10 #[] w fun e w' => e = .returned (.bool true) ∧ Below w.heap.size w w' := by
  have HG : Hid (∀ W b c, ItAt W (some ⟨b, 0, none⟩) 3 agm agl agd agb → LkAt W (some ⟨c, 0, none⟩) 3 agm alf → Calls Tryd.prog 31 #[.slice (some ⟨b, 0, none⟩) 3 3, .slice (some ⟨c, 0, none⟩) 3 3] W fun e w' => e = .returned (.tuple #[.int .i64 10000, .int .i64 0]) ∧ Below W.heap.size W w') := Lib.hid fun W b c h1 h2 => by
    have := greatest_say (some ⟨b, 0, none⟩) 3 3 agm agl agd agb (some ⟨c, 0, none⟩) 3 3 agm alf W h1 h2 (by omega) (by omega) (by omega) (aw_sht aw_m4) (aw_sht aw_b4) (aw_sht aw_m4)
    rw [aw_ok, aw_sh] at this
    exact this
  have HS : Hid (∀ W b c, ItAt W (some ⟨b, 0, none⟩) 3 agm agl agd agb → LkAt W (some ⟨c, 0, none⟩) 3 agm alf → Calls Tryd.prog 33 #[.slice (some ⟨b, 0, none⟩) 3 3, .slice (some ⟨c, 0, none⟩) 3 3] W fun e w' => (∃ v, e = .returned (.tuple #[v, .int .i64 0]) ∧ ZAt w' v [3000, 7000]) ∧ Below W.heap.size W w') := Lib.hid fun W b c h1 h2 => by
    have := shares_say (some ⟨b, 0, none⟩) 3 3 agm agl agd agb (some ⟨c, 0, none⟩) 3 3 agm alf W h1 h2 (by omega) (by omega) (by omega) (aw_sht aw_m4) (aw_sht aw_b4) (aw_sht aw_m4)
    rw [aw_ok, aw_sh] at this
    exact this
  have HM : Hid (∀ W b c, ItAt W (some ⟨b, 0, none⟩) 3 agm agl agd agb → LkAt W (some ⟨c, 0, none⟩) 3 agm alf → Calls Tryd.prog 27 #[.slice (some ⟨b, 0, none⟩) 3 3, .slice (some ⟨c, 0, none⟩) 3 3, .int .i64 1] W fun e w' => e = .returned (.tuple #[.int .i64 3000, .int .i64 0]) ∧ Below W.heap.size W w') := Lib.hid fun W b c h1 h2 => by
    have := most_ok (some ⟨b, 0, none⟩) 3 3 agm agl agd agb (some ⟨c, 0, none⟩) 3 3 agm alf W h1 h2 (by omega) (by omega) (by omega) (aw_sht aw_m4) (aw_sht aw_b4) (aw_sht aw_m4) aw_ok 1 (by omega) aw_en
    rw [aw_mo] at this
    exact this
  go_enter Tryd.func10, Tryd.ntmps10
  go_wp2_with fail
  obtain ⟨hI, hLk⟩ := aw_mem w
  have HB := Lib.hid (show Below w.heap.size w ((w.alloc (.cells #[.string { data := #[98, 101, 97, 109] }, .int .i64 10000, .int .i64 0, .string { data := #[97] }, .string { data := #[111, 110, 101] }, .int .i64 3000, .int .i64 0, .string { data := #[97] }, .string { data := #[116, 119, 111] }, .int .i64 8000, .int .i64 0, .string { data := #[97] }] 62)).alloc (.cells #[.string { data := #[98, 101, 97, 109] }, .int .i64 (-1), .string { data := #[111, 110, 101] }, .int .i64 0, .string { data := #[116, 119, 111] }, .int .i64 0] 37)) by (repeat' (first | (with_reducible exact Below.refl _ _) | (with_reducible assumption) | (with_reducible refine Below.alloc ?_ ?_ _) | (with_reducible refine Below.drew ?_) | (with_reducible refine below_drewN ?_ _) | (with_reducible refine Below.setCell ?_ ?_ _) | (with_reducible refine below_after ?_ ?_ _) | (with_reducible refine below_set ?_) | (with_reducible refine After.size_le _ ?_) | (with_reducible refine size_alloc_le ?_) | (with_reducible refine size_set_le ?_) | (with_reducible refine size_drewN_le ?_) | go_size)))
  have HI := Lib.hid hI
  have HK := Lib.hid hLk
  clear hI hLk
  generalize ((w.alloc (.cells #[.string { data := #[98, 101, 97, 109] }, .int .i64 10000, .int .i64 0, .string { data := #[97] }, .string { data := #[111, 110, 101] }, .int .i64 3000, .int .i64 0, .string { data := #[97] }, .string { data := #[116, 119, 111] }, .int .i64 8000, .int .i64 0, .string { data := #[97] }] 62)).alloc (.cells #[.string { data := #[98, 101, 97, 109] }, .int .i64 (-1), .string { data := #[111, 110, 101] }, .int .i64 0, .string { data := #[116, 119, 111] }, .int .i64 0] 37)) = W1 at *
  refine (HG.out _ _ _ HI.out HK.out).mono ?_
  rintro e w2 ⟨rfl, hb2⟩
  have HB2 := Lib.hid (HB.out.trans (hb2.mono HB.out.size))
  have HI2 := Lib.hid (HI.out.on hb2)
  have HK2 := Lib.hid (HK.out.on hb2)
  clear hb2 HB HI HK HG
  go_wp2_with fail
  refine (HS.out _ _ _ HI2.out HK2.out).mono ?_
  rintro e w3 ⟨⟨v, rfl, hZ⟩, hb3⟩
  have HB3 := Lib.hid (HB2.out.trans (hb3.mono HB2.out.size))
  have HI3 := Lib.hid (HI2.out.on hb3)
  have HK3 := Lib.hid (HK2.out.on hb3)
  have HZ := Lib.hid hZ
  clear hb3 HB2 HI2 HK2 HS hZ
  go_wp2_with fail
  refine (HM.out _ _ _ HI3.out HK3.out).mono ?_
  rintro e w4 ⟨rfl, hb4⟩
  have HB4 := Lib.hid (HB3.out.trans (hb4.mono HB3.out.size))
  have HZ4 := Lib.hid (HZ.out.on hb4)
  clear hb4 HB3 HI3 HK3 HM HZ
  have HL1 : Hid (∀ b W, W.cell? ⟨b, 0, none⟩ = some (.int .i64 3000) → W.cell? ⟨b, 1, none⟩ = some (.int .i64 7000) → ZAt W (.slice (some ⟨b, 0, none⟩) 2 2) [3000, 7000]) := Lib.hid fun b W h0 h1 => ⟨_, _, rfl, fun i hi => by
    rcases (show i = 0 ∨ i = 1 by simp at hi; omega) with rfl | rfl
    · exact ⟨b, 0, rfl, World.block_lt_of_cell? W _ h0, by simpa using h0⟩
    · exact ⟨b, 0, rfl, World.block_lt_of_cell? W _ h0, by simpa using h1⟩⟩
  have HQ := Lib.hid (sameZ_any (w := w4.alloc (.cells #[.int .i64 3000, .int .i64 7000] 3)) (HZ4.out.on ((Below.refl _ _).alloc (Nat.le_refl _) _)) (HL1.out w4.heap.size _ (by simp [go_sem]) (by simp [go_sem])) (by simp))
  go_wp2_with (go_at_call 20; refine HQ.out.mono ?_; rintro e w5 ⟨rfl, hb5⟩; have HB5 := Lib.hid (Below.trans (HB4.out.alloc HB4.out.size (.cells #[.int .i64 3000, .int .i64 7000] 3)) (hb5.mono (by have := HB4.out.size; simp; omega))); clear hb5)
  go_ret
  exact ⟨rfl, HB5.out⟩
end Go.Proofs.YtmbjgaeofkikkaaDoor
