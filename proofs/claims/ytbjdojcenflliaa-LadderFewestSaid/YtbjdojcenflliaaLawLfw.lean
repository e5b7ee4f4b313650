/- LadderFewest: Fewest, Stuck and Reach are those of 3.1, 3.2 and 3.4. -/
import Derived.Test.YtbjdojcenflliaaLfw
import Derived.Test.YtbjdojcenflliaaLdq
namespace Go.Proofs.Ytbjdojcenflliaa
open Go.RowKit Go.Shelf Go.Maps
attribute [local go_sem] Oper.semAt_some
attribute [local go_sem] After.cell After.frozen After.lt After.le After.ne After.ne' After.set_eq After.size_set After.lt_add

set_option maxRecDepth 100000 in
set_option maxHeartbeats 4000000 in
theorem ladderFewest_ok (fi ga tp le lp sg : Int) (a : Option Addr) (n cap : Nat) (hg : Nat → Int) (sd : Nat → Bool) (w : World) (hA : JtAt w a n hg sd) (hn : n ≤ 9223372036854775807) :
    Calls Try.prog 4 #[.agg #[.int .i64 fi, .int .i64 ga, .int .i64 tp, .int .i64 le, .int .i64 lp, .int .i64 sg], .slice a n cap] w fun e w' => e = .returned (.bool true) ∧ Below w.heap.size w w' := by
  have HA := Lib.hid hA
  have HW := Lib.hid awake_any
  clear hA
  by_cases hs : n ≤ 80
  · have HSm := Lib.hid (fun W => small_any a n cap none 0 0 W (decide_eq_true ⟨hs, by omega⟩))
    by_cases hv : VcP fi ga tp le lp sg ∧ VjP n hg
    · have HX := Lib.hid (fun W (hW : Below w.heap.size w W) => Reach_ok fi ga tp le lp sg a n cap hg sd W (HA.out.on hW) hn hv.1 hv.2)
      have HRX := Lib.hid (fun W (hW : Below w.heap.size w W) => rReach_ok fi ga tp le lp sg a n cap hg sd W (HA.out.on hW) hn hv.1 hv.2)
      have HLl : Hid ((fwL hg sd n fi ga (tp - ga)).length ≤ 100000) := Lib.hid (by
        have h1 := fsL_len (h := hg) (u := sd) (N := n) (st := ga) (c := ctN hg sd n ga (tp - ga)) (lsL (ctN hg sd n ga (tp - ga)) (upT hg sd n fi 0)) 0 fi
        unfold fwL
        by_cases h0 : lsL (ctN hg sd n ga (tp - ga)) (upT hg sd n fi 0) = 0
        · omega
        · obtain ⟨j, _, hj⟩ := ls_some h0
          have h2 := ctS_le (h := hg) (u := sd) (N := n) (st := ga) (la := tp - ga) n j
          unfold ctN at h1 hj ⊢
          omega)
      by_cases hf : fwL hg sd n fi ga (tp - ga) = []
      · have HF := Lib.hid (fun W (hW : Below w.heap.size w W) => (Fewest_ok fi ga tp le lp sg a n cap hg sd W (HA.out.on hW) hn hv.1 hv.2).mono (fun e w' h => (⟨by rcases h.1 with ⟨_, h0⟩ | ⟨h0, _⟩; exact h0; exact absurd hf h0, h.2⟩ : e = .returned (.tuple #[.slice none 0 0, .int .i64 8]) ∧ Below W.heap.size W w')))
        have HRF := Lib.hid (fun W (hW : Below w.heap.size w W) => (rFewest_ok fi ga tp le lp sg a n cap hg sd W (HA.out.on hW) hn hv.1 hv.2).mono (fun e w' h => (⟨by rcases h.1 with ⟨_, h0⟩ | ⟨h0, _⟩; exact h0; exact absurd hf h0, h.2⟩ : e = .returned (.tuple #[.slice none 0 0, .int .i64 8]) ∧ Below W.heap.size W w')))
        have HS := Lib.hid (fun W (hW : Below w.heap.size w W) => (Stuck_ok fi ga tp le lp sg a n cap hg sd W (HA.out.on hW) hn hv.1 hv.2).mono (fun e w' h => (⟨by rcases h.1 with ⟨h0, _⟩ | ⟨_, h0⟩; exact absurd hf h0; exact h0, h.2⟩ : e = .returned (.tuple #[.int .i64 (hiS hg sd fi ga n).1, .int .i64 0]) ∧ Below W.heap.size W w')))
        have HRS := Lib.hid (fun W (hW : Below w.heap.size w W) => (rStuck_ok fi ga tp le lp sg a n cap hg sd W (HA.out.on hW) hn hv.1 hv.2).mono (fun e w' h => (⟨by rcases h.1 with ⟨h0, _⟩ | ⟨_, h0⟩; exact absurd hf h0; exact h0, h.2⟩ : e = .returned (.tuple #[.int .i64 (hiS hg sd fi ga n).1, .int .i64 0]) ∧ Below W.heap.size W w')))
        generalize (hiS hg sd fi ga n).1 = H at *
        clear hf hv hs HLl
        go_enter Try.func4, Try.ntmps4
        go_wp2_with fail
        obtain ⟨W0, hW0⟩ : ∃ W0, w.alloc (.cells #[.int .i64 fi, .int .i64 ga, .int .i64 tp, .int .i64 le, .int .i64 lp, .int .i64 sg] 23) = W0 := ⟨_, rfl⟩
        have B0 : Hid (Below w.heap.size w W0) := Lib.hid (by rw [← hW0]; (repeat' (first | (with_reducible exact Below.refl _ _) | (with_reducible assumption) | (with_reducible refine Below.alloc ?_ ?_ _) | (with_reducible refine Below.drew ?_) | (with_reducible refine below_drewN ?_ _) | (with_reducible refine Below.setCell ?_ ?_ _) | (with_reducible refine below_after ?_ ?_ _) | (with_reducible refine below_set ?_) | (with_reducible refine After.size_le _ ?_) | (with_reducible refine size_alloc_le ?_) | (with_reducible refine size_set_le ?_) | (with_reducible refine size_drewN_le ?_) | go_size)))
        have C0 : Hid (ClB W0 w.heap.size fi ga tp le lp sg) := Lib.hid (by rw [← hW0]; exact clB_new _ _ _ _ _ _ _ _)
        obtain ⟨k6, k0, k1, k2, k3, k4, k5⟩ := C0.out
        rw [hW0]
        clear hW0
        refine (HSm.out W0).mono ?_
        rintro e w1 ⟨rfl, hb1⟩
        have B1 : Hid (Below w.heap.size w w1) := Lib.hid (B0.out.trans (hb1.mono B0.out.size))
        have C1 : Hid (ClB w1 w.heap.size fi ga tp le lp sg) := Lib.hid (C0.out.on hb1)
        clear hb1 k0 k1 k2 k3 k4 k5 k6
        obtain ⟨k6, k0, k1, k2, k3, k4, k5⟩ := C1.out
        go_wp2_with fail
        refine (HF.out w1 B1.out).mono ?_
        rintro e w2 ⟨rfl, hb2⟩
        have B2 : Hid (Below w.heap.size w w2) := Lib.hid (B1.out.trans (hb2.mono B1.out.size))
        have C2 : Hid (ClB w2 w.heap.size fi ga tp le lp sg) := Lib.hid (C1.out.on hb2)
        clear hb2 k0 k1 k2 k3 k4 k5 k6
        obtain ⟨k6, k0, k1, k2, k3, k4, k5⟩ := C2.out
        go_wp2_with fail
        refine (HRF.out w2 B2.out).mono ?_
        rintro e w3 ⟨rfl, hb3⟩
        have B3 : Hid (Below w.heap.size w w3) := Lib.hid (B2.out.trans (hb3.mono B2.out.size))
        have C3 : Hid (ClB w3 w.heap.size fi ga tp le lp sg) := Lib.hid (C2.out.on hb3)
        clear hb3 k0 k1 k2 k3 k4 k5 k6
        obtain ⟨k6, k0, k1, k2, k3, k4, k5⟩ := C3.out
        have HM := Lib.hid (sameInts3 (w := w3) (v := .slice none 0 0) (v' := .slice none 0 0) (L := []) (.inl ⟨rfl, rfl⟩) (.inl ⟨rfl, rfl⟩) (by simp))
        go_wp2_with fail
        refine (HM.out).mono ?_
        rintro e w4 ⟨rfl, hb4⟩
        have B4 : Hid (Below w.heap.size w w4) := Lib.hid (B3.out.trans (hb4.mono B3.out.size))
        have C4 : Hid (ClB w4 w.heap.size fi ga tp le lp sg) := Lib.hid (C3.out.on hb4)
        clear hb4 k0 k1 k2 k3 k4 k5 k6
        obtain ⟨k6, k0, k1, k2, k3, k4, k5⟩ := C4.out
        go_wp2_with fail
        refine (HS.out w4 B4.out).mono ?_
        rintro e w5 ⟨rfl, hb5⟩
        have B5 : Hid (Below w.heap.size w w5) := Lib.hid (B4.out.trans (hb5.mono B4.out.size))
        have C5 : Hid (ClB w5 w.heap.size fi ga tp le lp sg) := Lib.hid (C4.out.on hb5)
        clear hb5 k0 k1 k2 k3 k4 k5 k6
        obtain ⟨k6, k0, k1, k2, k3, k4, k5⟩ := C5.out
        go_wp2_with fail
        refine (HRS.out w5 B5.out).mono ?_
        rintro e w6 ⟨rfl, hb6⟩
        have B6 : Hid (Below w.heap.size w w6) := Lib.hid (B5.out.trans (hb6.mono B5.out.size))
        have C6 : Hid (ClB w6 w.heap.size fi ga tp le lp sg) := Lib.hid (C5.out.on hb6)
        clear hb6 k0 k1 k2 k3 k4 k5 k6
        obtain ⟨k6, k0, k1, k2, k3, k4, k5⟩ := C6.out
        go_wp2_with fail
        refine (HX.out w6 B6.out).mono ?_
        rintro e w7 ⟨rfl, hb7⟩
        have B7 : Hid (Below w.heap.size w w7) := Lib.hid (B6.out.trans (hb7.mono B6.out.size))
        have C7 : Hid (ClB w7 w.heap.size fi ga tp le lp sg) := Lib.hid (C6.out.on hb7)
        clear hb7 k0 k1 k2 k3 k4 k5 k6
        obtain ⟨k6, k0, k1, k2, k3, k4, k5⟩ := C7.out
        go_wp2_with fail
        refine (HRX.out w7 B7.out).mono ?_
        rintro e w8 ⟨rfl, hb8⟩
        have B8 : Hid (Below w.heap.size w w8) := Lib.hid (B7.out.trans (hb8.mono B7.out.size))
        have C8 : Hid (ClB w8 w.heap.size fi ga tp le lp sg) := Lib.hid (C7.out.on hb8)
        clear hb8 k0 k1 k2 k3 k4 k5 k6
        obtain ⟨k6, k0, k1, k2, k3, k4, k5⟩ := C8.out
        go_wp2_with fail
        refine calls_after (HW.out _) ?_
        intro x9
        go_wp2
        go_ret
        exact ⟨rfl, B8.out.trans (x9.out.mono B8.out.size)⟩
      · have HF := Lib.hid (fun W (hW : Below w.heap.size w W) => (Fewest_ok fi ga tp le lp sg a n cap hg sd W (HA.out.on hW) hn hv.1 hv.2).mono (fun e w' h => (⟨by rcases h.1 with ⟨h0, _⟩ | ⟨_, h0⟩; exact absurd h0 hf; exact h0, h.2⟩ : (∃ v, e = .returned (.tuple #[v, .int .i64 0]) ∧ NAt w' v (fwL hg sd n fi ga (tp - ga))) ∧ Below W.heap.size W w')))
        have HRF := Lib.hid (fun W (hW : Below w.heap.size w W) => (rFewest_ok fi ga tp le lp sg a n cap hg sd W (HA.out.on hW) hn hv.1 hv.2).mono (fun e w' h => (⟨by rcases h.1 with ⟨h0, _⟩ | ⟨_, h0⟩; exact absurd h0 hf; exact h0, h.2⟩ : (∃ v, e = .returned (.tuple #[v, .int .i64 0]) ∧ NAt w' v (fwL hg sd n fi ga (tp - ga))) ∧ Below W.heap.size W w')))
        have HS := Lib.hid (fun W (hW : Below w.heap.size w W) => (Stuck_ok fi ga tp le lp sg a n cap hg sd W (HA.out.on hW) hn hv.1 hv.2).mono (fun e w' h => (⟨by rcases h.1 with ⟨_, h0⟩ | ⟨h0, _⟩; exact h0; exact absurd h0 hf, h.2⟩ : e = .returned (.tuple #[.int .i64 0, .int .i64 8]) ∧ Below W.heap.size W w')))
        have HRS := Lib.hid (fun W (hW : Below w.heap.size w W) => (rStuck_ok fi ga tp le lp sg a n cap hg sd W (HA.out.on hW) hn hv.1 hv.2).mono (fun e w' h => (⟨by rcases h.1 with ⟨_, h0⟩ | ⟨h0, _⟩; exact h0; exact absurd h0 hf, h.2⟩ : e = .returned (.tuple #[.int .i64 0, .int .i64 8]) ∧ Below W.heap.size W w')))
        generalize (hiS hg sd fi ga n).1 = H at *
        generalize fwL hg sd n fi ga (tp - ga) = L at *
        clear hf hv hs
        go_enter Try.func4, Try.ntmps4
        go_wp2_with fail
        obtain ⟨W0, hW0⟩ : ∃ W0, w.alloc (.cells #[.int .i64 fi, .int .i64 ga, .int .i64 tp, .int .i64 le, .int .i64 lp, .int .i64 sg] 23) = W0 := ⟨_, rfl⟩
        have B0 : Hid (Below w.heap.size w W0) := Lib.hid (by rw [← hW0]; (repeat' (first | (with_reducible exact Below.refl _ _) | (with_reducible assumption) | (with_reducible refine Below.alloc ?_ ?_ _) | (with_reducible refine Below.drew ?_) | (with_reducible refine below_drewN ?_ _) | (with_reducible refine Below.setCell ?_ ?_ _) | (with_reducible refine below_after ?_ ?_ _) | (with_reducible refine below_set ?_) | (with_reducible refine After.size_le _ ?_) | (with_reducible refine size_alloc_le ?_) | (with_reducible refine size_set_le ?_) | (with_reducible refine size_drewN_le ?_) | go_size)))
        have C0 : Hid (ClB W0 w.heap.size fi ga tp le lp sg) := Lib.hid (by rw [← hW0]; exact clB_new _ _ _ _ _ _ _ _)
        obtain ⟨k6, k0, k1, k2, k3, k4, k5⟩ := C0.out
        rw [hW0]
        clear hW0
        refine (HSm.out W0).mono ?_
        rintro e w1 ⟨rfl, hb1⟩
        have B1 : Hid (Below w.heap.size w w1) := Lib.hid (B0.out.trans (hb1.mono B0.out.size))
        have C1 : Hid (ClB w1 w.heap.size fi ga tp le lp sg) := Lib.hid (C0.out.on hb1)
        clear hb1 k0 k1 k2 k3 k4 k5 k6
        obtain ⟨k6, k0, k1, k2, k3, k4, k5⟩ := C1.out
        go_wp2_with fail
        refine (HF.out w1 B1.out).mono ?_
        rintro e w2 ⟨⟨v, rfl, hN⟩, hb2⟩
        have B2 : Hid (Below w.heap.size w w2) := Lib.hid (B1.out.trans (hb2.mono B1.out.size))
        have C2 : Hid (ClB w2 w.heap.size fi ga tp le lp sg) := Lib.hid (C1.out.on hb2)
        have HN2 := Lib.hid hN
        clear hb2 k0 k1 k2 k3 k4 k5 k6
        obtain ⟨k6, k0, k1, k2, k3, k4, k5⟩ := C2.out
        clear hN
        go_wp2_with fail
        refine (HRF.out w2 B2.out).mono ?_
        rintro e w3 ⟨⟨v2, rfl, hN⟩, hb3⟩
        have B3 : Hid (Below w.heap.size w w3) := Lib.hid (B2.out.trans (hb3.mono B2.out.size))
        have C3 : Hid (ClB w3 w.heap.size fi ga tp le lp sg) := Lib.hid (C2.out.on hb3)
        have HN3 := Lib.hid hN
        have HM := Lib.hid (sameInts3 (HN2.out.on hb3) hN HLl.out)
        clear hb3 k0 k1 k2 k3 k4 k5 k6
        obtain ⟨k6, k0, k1, k2, k3, k4, k5⟩ := C3.out
        clear hN HN2 HN3
        go_wp2_with fail
        refine (HM.out).mono ?_
        rintro e w4 ⟨rfl, hb4⟩
        have B4 : Hid (Below w.heap.size w w4) := Lib.hid (B3.out.trans (hb4.mono B3.out.size))
        have C4 : Hid (ClB w4 w.heap.size fi ga tp le lp sg) := Lib.hid (C3.out.on hb4)
        clear hb4 k0 k1 k2 k3 k4 k5 k6
        obtain ⟨k6, k0, k1, k2, k3, k4, k5⟩ := C4.out
        go_wp2_with fail
        refine (HS.out w4 B4.out).mono ?_
        rintro e w5 ⟨rfl, hb5⟩
        have B5 : Hid (Below w.heap.size w w5) := Lib.hid (B4.out.trans (hb5.mono B4.out.size))
        have C5 : Hid (ClB w5 w.heap.size fi ga tp le lp sg) := Lib.hid (C4.out.on hb5)
        clear hb5 k0 k1 k2 k3 k4 k5 k6
        obtain ⟨k6, k0, k1, k2, k3, k4, k5⟩ := C5.out
        go_wp2_with fail
        refine (HRS.out w5 B5.out).mono ?_
        rintro e w6 ⟨rfl, hb6⟩
        have B6 : Hid (Below w.heap.size w w6) := Lib.hid (B5.out.trans (hb6.mono B5.out.size))
        have C6 : Hid (ClB w6 w.heap.size fi ga tp le lp sg) := Lib.hid (C5.out.on hb6)
        clear hb6 k0 k1 k2 k3 k4 k5 k6
        obtain ⟨k6, k0, k1, k2, k3, k4, k5⟩ := C6.out
        go_wp2_with fail
        refine (HX.out w6 B6.out).mono ?_
        rintro e w7 ⟨rfl, hb7⟩
        have B7 : Hid (Below w.heap.size w w7) := Lib.hid (B6.out.trans (hb7.mono B6.out.size))
        have C7 : Hid (ClB w7 w.heap.size fi ga tp le lp sg) := Lib.hid (C6.out.on hb7)
        clear hb7 k0 k1 k2 k3 k4 k5 k6
        obtain ⟨k6, k0, k1, k2, k3, k4, k5⟩ := C7.out
        go_wp2_with fail
        refine (HRX.out w7 B7.out).mono ?_
        rintro e w8 ⟨rfl, hb8⟩
        have B8 : Hid (Below w.heap.size w w8) := Lib.hid (B7.out.trans (hb8.mono B7.out.size))
        have C8 : Hid (ClB w8 w.heap.size fi ga tp le lp sg) := Lib.hid (C7.out.on hb8)
        clear hb8 k0 k1 k2 k3 k4 k5 k6
        obtain ⟨k6, k0, k1, k2, k3, k4, k5⟩ := C8.out
        go_wp2_with fail
        refine calls_after (HW.out _) ?_
        intro x9
        go_wp2
        go_ret
        exact ⟨rfl, B8.out.trans (x9.out.mono B8.out.size)⟩
    · have HF := Lib.hid (fun W (hW : Below w.heap.size w W) => Fewest_bad fi ga tp le lp sg a n cap hg sd W (HA.out.on hW) hn hv)
      have HRF := Lib.hid (fun W (hW : Below w.heap.size w W) => rFewest_bad fi ga tp le lp sg a n cap hg sd W (HA.out.on hW) hn hv)
      have HS := Lib.hid (fun W (hW : Below w.heap.size w W) => Stuck_bad fi ga tp le lp sg a n cap hg sd W (HA.out.on hW) hn hv)
      have HRS := Lib.hid (fun W (hW : Below w.heap.size w W) => rStuck_bad fi ga tp le lp sg a n cap hg sd W (HA.out.on hW) hn hv)
      have HX := Lib.hid (fun W (hW : Below w.heap.size w W) => Reach_bad fi ga tp le lp sg a n cap hg sd W (HA.out.on hW) hn hv)
      have HRX := Lib.hid (fun W (hW : Below w.heap.size w W) => rReach_bad fi ga tp le lp sg a n cap hg sd W (HA.out.on hW) hn hv)
      clear hv hs
      go_enter Try.func4, Try.ntmps4
      go_wp2_with fail
      obtain ⟨W0, hW0⟩ : ∃ W0, w.alloc (.cells #[.int .i64 fi, .int .i64 ga, .int .i64 tp, .int .i64 le, .int .i64 lp, .int .i64 sg] 23) = W0 := ⟨_, rfl⟩
      have B0 : Hid (Below w.heap.size w W0) := Lib.hid (by rw [← hW0]; (repeat' (first | (with_reducible exact Below.refl _ _) | (with_reducible assumption) | (with_reducible refine Below.alloc ?_ ?_ _) | (with_reducible refine Below.drew ?_) | (with_reducible refine below_drewN ?_ _) | (with_reducible refine Below.setCell ?_ ?_ _) | (with_reducible refine below_after ?_ ?_ _) | (with_reducible refine below_set ?_) | (with_reducible refine After.size_le _ ?_) | (with_reducible refine size_alloc_le ?_) | (with_reducible refine size_set_le ?_) | (with_reducible refine size_drewN_le ?_) | go_size)))
      have C0 : Hid (ClB W0 w.heap.size fi ga tp le lp sg) := Lib.hid (by rw [← hW0]; exact clB_new _ _ _ _ _ _ _ _)
      obtain ⟨k6, k0, k1, k2, k3, k4, k5⟩ := C0.out
      rw [hW0]
      clear hW0
      refine (HSm.out W0).mono ?_
      rintro e w1 ⟨rfl, hb1⟩
      have B1 : Hid (Below w.heap.size w w1) := Lib.hid (B0.out.trans (hb1.mono B0.out.size))
      have C1 : Hid (ClB w1 w.heap.size fi ga tp le lp sg) := Lib.hid (C0.out.on hb1)
      clear hb1 k0 k1 k2 k3 k4 k5 k6
      obtain ⟨k6, k0, k1, k2, k3, k4, k5⟩ := C1.out
      go_wp2_with fail
      refine (HF.out w1 B1.out).mono ?_
      rintro e w2 ⟨rfl, hb2⟩
      have B2 : Hid (Below w.heap.size w w2) := Lib.hid (B1.out.trans (hb2.mono B1.out.size))
      have C2 : Hid (ClB w2 w.heap.size fi ga tp le lp sg) := Lib.hid (C1.out.on hb2)
      clear hb2 k0 k1 k2 k3 k4 k5 k6
      obtain ⟨k6, k0, k1, k2, k3, k4, k5⟩ := C2.out
      go_wp2_with fail
      refine (HRF.out w2 B2.out).mono ?_
      rintro e w3 ⟨rfl, hb3⟩
      have B3 : Hid (Below w.heap.size w w3) := Lib.hid (B2.out.trans (hb3.mono B2.out.size))
      have C3 : Hid (ClB w3 w.heap.size fi ga tp le lp sg) := Lib.hid (C2.out.on hb3)
      clear hb3 k0 k1 k2 k3 k4 k5 k6
      obtain ⟨k6, k0, k1, k2, k3, k4, k5⟩ := C3.out
      have HM := Lib.hid (sameInts3 (w := w3) (v := .slice none 0 0) (v' := .slice none 0 0) (L := []) (.inl ⟨rfl, rfl⟩) (.inl ⟨rfl, rfl⟩) (by simp))
      go_wp2_with fail
      refine (HM.out).mono ?_
      rintro e w4 ⟨rfl, hb4⟩
      have B4 : Hid (Below w.heap.size w w4) := Lib.hid (B3.out.trans (hb4.mono B3.out.size))
      have C4 : Hid (ClB w4 w.heap.size fi ga tp le lp sg) := Lib.hid (C3.out.on hb4)
      clear hb4 k0 k1 k2 k3 k4 k5 k6
      obtain ⟨k6, k0, k1, k2, k3, k4, k5⟩ := C4.out
      go_wp2_with fail
      refine (HS.out w4 B4.out).mono ?_
      rintro e w5 ⟨rfl, hb5⟩
      have B5 : Hid (Below w.heap.size w w5) := Lib.hid (B4.out.trans (hb5.mono B4.out.size))
      have C5 : Hid (ClB w5 w.heap.size fi ga tp le lp sg) := Lib.hid (C4.out.on hb5)
      clear hb5 k0 k1 k2 k3 k4 k5 k6
      obtain ⟨k6, k0, k1, k2, k3, k4, k5⟩ := C5.out
      go_wp2_with fail
      refine (HRS.out w5 B5.out).mono ?_
      rintro e w6 ⟨rfl, hb6⟩
      have B6 : Hid (Below w.heap.size w w6) := Lib.hid (B5.out.trans (hb6.mono B5.out.size))
      have C6 : Hid (ClB w6 w.heap.size fi ga tp le lp sg) := Lib.hid (C5.out.on hb6)
      clear hb6 k0 k1 k2 k3 k4 k5 k6
      obtain ⟨k6, k0, k1, k2, k3, k4, k5⟩ := C6.out
      go_wp2_with fail
      refine (HX.out w6 B6.out).mono ?_
      rintro e w7 ⟨rfl, hb7⟩
      have B7 : Hid (Below w.heap.size w w7) := Lib.hid (B6.out.trans (hb7.mono B6.out.size))
      have C7 : Hid (ClB w7 w.heap.size fi ga tp le lp sg) := Lib.hid (C6.out.on hb7)
      clear hb7 k0 k1 k2 k3 k4 k5 k6
      obtain ⟨k6, k0, k1, k2, k3, k4, k5⟩ := C7.out
      go_wp2_with fail
      refine (HRX.out w7 B7.out).mono ?_
      rintro e w8 ⟨rfl, hb8⟩
      have B8 : Hid (Below w.heap.size w w8) := Lib.hid (B7.out.trans (hb8.mono B7.out.size))
      have C8 : Hid (ClB w8 w.heap.size fi ga tp le lp sg) := Lib.hid (C7.out.on hb8)
      clear hb8 k0 k1 k2 k3 k4 k5 k6
      obtain ⟨k6, k0, k1, k2, k3, k4, k5⟩ := C8.out
      go_wp2_with fail
      refine calls_after (HW.out _) ?_
      intro x9
      go_wp2
      go_ret
      exact ⟨rfl, B8.out.trans (x9.out.mono B8.out.size)⟩
  · have HSm := Lib.hid (fun W => small_any a n cap none 0 0 W (decide_eq_false fun h => hs h.1))
    clear hs
    go_enter Try.func4, Try.ntmps4
    go_wp2_with fail
    obtain ⟨W0, hW0⟩ : ∃ W0, w.alloc (.cells #[.int .i64 fi, .int .i64 ga, .int .i64 tp, .int .i64 le, .int .i64 lp, .int .i64 sg] 23) = W0 := ⟨_, rfl⟩
    have B0 : Hid (Below w.heap.size w W0) := Lib.hid (by rw [← hW0]; (repeat' (first | (with_reducible exact Below.refl _ _) | (with_reducible assumption) | (with_reducible refine Below.alloc ?_ ?_ _) | (with_reducible refine Below.drew ?_) | (with_reducible refine below_drewN ?_ _) | (with_reducible refine Below.setCell ?_ ?_ _) | (with_reducible refine below_after ?_ ?_ _) | (with_reducible refine below_set ?_) | (with_reducible refine After.size_le _ ?_) | (with_reducible refine size_alloc_le ?_) | (with_reducible refine size_set_le ?_) | (with_reducible refine size_drewN_le ?_) | go_size)))
    have C0 : Hid (ClB W0 w.heap.size fi ga tp le lp sg) := Lib.hid (by rw [← hW0]; exact clB_new _ _ _ _ _ _ _ _)
    obtain ⟨k6, k0, k1, k2, k3, k4, k5⟩ := C0.out
    rw [hW0]
    clear hW0
    refine (HSm.out W0).mono ?_
    rintro e w1 ⟨rfl, hb1⟩
    have B1 : Hid (Below w.heap.size w w1) := Lib.hid (B0.out.trans (hb1.mono B0.out.size))
    have C1 : Hid (ClB w1 w.heap.size fi ga tp le lp sg) := Lib.hid (C0.out.on hb1)
    clear hb1 k0 k1 k2 k3 k4 k5 k6
    obtain ⟨k6, k0, k1, k2, k3, k4, k5⟩ := C1.out
    go_wp2_with fail
    refine calls_after (HW.out _) ?_
    intro x9
    go_wp2
    go_ret
    exact ⟨rfl, B1.out.trans (x9.out.mono B1.out.size)⟩
end Go.Proofs.Ytbjdojcenflliaa
