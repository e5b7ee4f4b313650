/- LadderDogs: ValidJoints, ValidClimb, Sound and Right are those of 3.1, whatever the climb, the joints and the dogs. -/
import Derived.Test.YtbjdojcenflliaaLdq
import Derived.Test.YtbjdojcenflliaaLda
namespace Go.Proofs.Ytbjdojcenflliaa
open Go.RowKit Go.Shelf Go.Maps
attribute [local go_sem] Oper.semAt_some
attribute [local go_sem] After.cell After.frozen After.lt After.le After.ne After.ne' After.set_eq After.size_set After.lt_add

theorem awake_on {w : World} {W : World} (hW : Below w.heap.size w W) :
    Calls Try.prog 11 #[] W fun e w' => e = .returned (.bool true) ∧ Below w.heap.size w w' :=
  (awake_any W).mono fun _ _ h => ⟨h.1, hW.trans (h.2.mono hW.size)⟩
set_option maxRecDepth 100000 in
set_option maxHeartbeats 4000000 in
theorem ladderDogs_ok (fi ga tp le lp sg : Int) (a : Option Addr) (n cap : Nat) (hg : Nat → Int) (sd : Nat → Bool) (da : Option Addr) (m dc : Nat) (d : Nat → Int) (w : World) (hA : JtAt w a n hg sd) (hD : DAt w da m d) (hn : n ≤ 9223372036854775807) :
    Calls Try.prog 3 #[.agg #[.int .i64 fi, .int .i64 ga, .int .i64 tp, .int .i64 le, .int .i64 lp, .int .i64 sg], .slice a n cap, .slice da m dc] w fun e w' => e = .returned (.bool true) ∧ Below w.heap.size w w' := by
  have HA := Lib.hid hA
  have HD := Lib.hid hD
  have HW := Lib.hid awake_any
  clear hA hD
  by_cases hbig : 300 < n ∨ 300 < m
  · have hb1 : (300 : Int) < (n : Int) ∨ ¬ (300 : Int) < (n : Int) ∧ (300 : Int) < (m : Int) := by omega
    clear hbig
    go_enter Try.func3, Try.ntmps3
    rcases hb1 with h | ⟨h, h2⟩
    all_goals
      go_wp2_with fail
      refine calls_after (HW.out _) ?_
      intro x1
      go_wp2
      go_ret
      exact ⟨rfl, by (repeat' (first | (with_reducible exact Below.refl _ _) | (with_reducible assumption) | (with_reducible refine Below.alloc ?_ ?_ _) | (with_reducible refine Below.drew ?_) | (with_reducible refine below_drewN ?_ _) | (with_reducible refine Below.setCell ?_ ?_ _) | (with_reducible refine below_after ?_ ?_ _) | (with_reducible refine below_set ?_) | (with_reducible refine After.size_le _ ?_) | (with_reducible refine size_alloc_le ?_) | (with_reducible refine size_set_le ?_) | (with_reducible refine size_drewN_le ?_) | go_size))⟩
  · have h1 : ¬ (300 : Int) < (n : Int) := by omega
    have h2 : ¬ (300 : Int) < (m : Int) := by omega
    have hm : m ≤ 1000000 := by omega
    have P1 := Lib.hid (fun W (hW : Below w.heap.size w W) => validJoints_any a n cap hg sd W (HA.out.on hW) hn)
    have R1 := Lib.hid (fun W (hW : Below w.heap.size w W) => rvalidJoints_any a n cap hg sd W (HA.out.on hW) hn)
    have P2 := Lib.hid (fun W => validClimb_any fi ga tp le lp sg W)
    have R2 := Lib.hid (fun W => rvalidClimb_any fi ga tp le lp sg W)
    have P3 := Lib.hid (fun W (hW : Below w.heap.size w W) => Right_any fi ga tp le lp sg a n cap hg sd da m dc d W (HA.out.on hW) (HD.out.on hW) hn hm)
    have R3 := Lib.hid (fun W (hW : Below w.heap.size w W) => rRight_any fi ga tp le lp sg a n cap hg sd da m dc d W (HA.out.on hW) (HD.out.on hW) hn hm)
    have HS : Hid (∃ (r : Value → Value) (L : List Nat), L.length ≤ 100000 ∧ (∀ W, Below w.heap.size w W → Calls Try.prog 12 #[.slice a n cap] W fun e w' => (∃ v ec, e = .returned (.tuple #[v, .int .i64 ec]) ∧ ec = (if VjP n hg then 0 else 1) ∧ NAt w' v L) ∧ Below W.heap.size W w') ∧ (∀ W, Below w.heap.size w W → Calls Try.prog 13 #[.slice a n cap] W fun e w' => (∃ v ec, e = .returned (.tuple #[v, .int .i64 ec]) ∧ ec = (if VjP n hg then 0 else 1) ∧ NAt w' v L) ∧ Below W.heap.size W w')) := Lib.hid (by
      by_cases hv : VjP n hg
      · refine ⟨id, sdL sd n, by have := sdL_len sd n; omega, fun W hW => (Sound_ok a n cap hg sd W (HA.out.on hW) hn hv).mono ?_, fun W hW => (rSound_ok a n cap hg sd W (HA.out.on hW) hn hv).mono ?_⟩
        · rintro e w' ⟨⟨v, rfl, h⟩, hb⟩; exact ⟨⟨v, 0, rfl, by rw [if_pos hv], h⟩, hb⟩
        · rintro e w' ⟨⟨v, rfl, h⟩, hb⟩; exact ⟨⟨v, 0, rfl, by rw [if_pos hv], h⟩, hb⟩
      · refine ⟨id, [], by simp, fun W hW => (Sound_bad a n cap hg sd W (HA.out.on hW) hn hv).mono ?_, fun W hW => (rSound_bad a n cap hg sd W (HA.out.on hW) hn hv).mono ?_⟩
        · rintro e w' ⟨rfl, hb⟩; exact ⟨⟨_, 1, rfl, by rw [if_neg hv], .inl ⟨rfl, rfl⟩⟩, hb⟩
        · rintro e w' ⟨rfl, hb⟩; exact ⟨⟨_, 1, rfl, by rw [if_neg hv], .inl ⟨rfl, rfl⟩⟩, hb⟩)
    obtain ⟨_, L, hL, S1, S2⟩ := HS.out
    have S1 := Lib.hid S1
    have S2 := Lib.hid S2
    clear HS hbig
    generalize decide (VjP n hg) = q1 at *
    generalize decide (VcP fi ga tp le lp sg) = q2 at *
    generalize decide ((VcP fi ga tp le lp sg ∧ VjP n hg) ∧ RtP hg sd n fi ga (tp - ga) m d) = q3 at *
    have e1 : (q1 == q1) = true := by simp
    have e2 : (q2 == q2) = true := by simp
    have e3 : (q3 == q3) = true := by simp
    go_enter Try.func3, Try.ntmps3
    go_wp2_with fail
    obtain ⟨W0, hW0⟩ : ∃ W0, w.alloc (.cells #[.int .i64 fi, .int .i64 ga, .int .i64 tp, .int .i64 le, .int .i64 lp, .int .i64 sg] 23) = W0 := ⟨_, rfl⟩
    have b0 : Below w.heap.size w W0 := by rw [← hW0]; (repeat' (first | (with_reducible exact Below.refl _ _) | (with_reducible assumption) | (with_reducible refine Below.alloc ?_ ?_ _) | (with_reducible refine Below.drew ?_) | (with_reducible refine below_drewN ?_ _) | (with_reducible refine Below.setCell ?_ ?_ _) | (with_reducible refine below_after ?_ ?_ _) | (with_reducible refine below_set ?_) | (with_reducible refine After.size_le _ ?_) | (with_reducible refine size_alloc_le ?_) | (with_reducible refine size_set_le ?_) | (with_reducible refine size_drewN_le ?_) | go_size))
    have s0 : W0.heap.size = w.heap.size + 1 := by rw [← hW0]; simp
    have k0 : W0.cell? ⟨w.heap.size, 0, none⟩ = some (.int .i64 fi) := by rw [← hW0]; simp [go_sem]
    have k1 : W0.cell? ⟨w.heap.size, 1, none⟩ = some (.int .i64 ga) := by rw [← hW0]; simp [go_sem]
    have k2 : W0.cell? ⟨w.heap.size, 2, none⟩ = some (.int .i64 tp) := by rw [← hW0]; simp [go_sem]
    have k3 : W0.cell? ⟨w.heap.size, 3, none⟩ = some (.int .i64 le) := by rw [← hW0]; simp [go_sem]
    have k4 : W0.cell? ⟨w.heap.size, 4, none⟩ = some (.int .i64 lp) := by rw [← hW0]; simp [go_sem]
    have k5 : W0.cell? ⟨w.heap.size, 5, none⟩ = some (.int .i64 sg) := by rw [← hW0]; simp [go_sem]
    rw [hW0]
    clear hW0
    refine (S1.out W0 b0).mono ?_
    rintro e w2 ⟨⟨v1, ec1, rfl, hc1, hN1⟩, hb2⟩
    have HB2 := Lib.hid (b0.trans (hb2.mono b0.size))
    have HN1 := Lib.hid hN1
    have HC1 := Lib.hid hc1
    have f2 : Fr (fun _ => False) W0 w2 := (Fr.refl W0).call hb2
    clear hb2 hN1 b0 hc1
    go_wp2_with fail
    refine (S2.out w2 HB2.out).mono ?_
    rintro e w3 ⟨⟨v2, ec2, rfl, hc2, hN2⟩, hb3⟩
    have HB3 := Lib.hid (HB2.out.trans (hb3.mono HB2.out.size))
    have HM := Lib.hid (fun W (hW : Below w3.heap.size w3 W) => sameInts3 ((HN1.out.on hb3).on hW) (hN2.on hW) hL)
    have f3 : Fr (fun _ => False) W0 w3 := f2.call hb3
    have k0 := f3.cell (p := ⟨w.heap.size, 0, none⟩) id k0
    have k1 := f3.cell (p := ⟨w.heap.size, 1, none⟩) id k1
    have k2 := f3.cell (p := ⟨w.heap.size, 2, none⟩) id k2
    have k3 := f3.cell (p := ⟨w.heap.size, 3, none⟩) id k3
    have k4 := f3.cell (p := ⟨w.heap.size, 4, none⟩) id k4
    have k5 := f3.cell (p := ⟨w.heap.size, 5, none⟩) id k5
    have hs3 : w.heap.size < w3.heap.size := by have := f3.size; omega
    have P1 := Lib.hid (fun W (hW : Below w3.heap.size w3 W) => P1.out W (HB3.out.trans (hW.mono HB3.out.size)))
    have R1 := Lib.hid (fun W (hW : Below w3.heap.size w3 W) => R1.out W (HB3.out.trans (hW.mono HB3.out.size)))
    have P3 := Lib.hid (fun W (hW : Below w3.heap.size w3 W) => P3.out W (HB3.out.trans (hW.mono HB3.out.size)))
    have R3 := Lib.hid (fun W (hW : Below w3.heap.size w3 W) => R3.out W (HB3.out.trans (hW.mono HB3.out.size)))
    obtain rfl : ec1 = ec2 := HC1.out.trans hc2.symm
    have e4 : (ec1 == ec1) = true := by simp
    clear hb3 hN2 S1 S2 HN1 HC1 hc2 HB2 f2 f3 HA HD
    go_wp2
    refine wp_region_after (by kernel_rfl) (by kernel_rfl) ?_; (repeat (first | go_big_quiet_step ((first | (go_at_call 14; exact quiet_after (HM.out _ (by (repeat' (first | (with_reducible exact Below.refl _ _) | (with_reducible assumption) | (with_reducible refine Below.alloc ?_ ?_ _) | (with_reducible refine Below.drew ?_) | (with_reducible refine below_drewN ?_ _) | (with_reducible refine Below.setCell ?_ ?_ _) | (with_reducible refine below_after ?_ ?_ _) | (with_reducible refine below_set ?_) | (with_reducible refine After.size_le _ ?_) | (with_reducible refine size_alloc_le ?_) | (with_reducible refine size_set_le ?_) | (with_reducible refine size_drewN_le ?_) | go_size))))) | (go_at_call 15; exact quiet_after (P1.out _ (by (repeat' (first | (with_reducible exact Below.refl _ _) | (with_reducible assumption) | (with_reducible refine Below.alloc ?_ ?_ _) | (with_reducible refine Below.drew ?_) | (with_reducible refine below_drewN ?_ _) | (with_reducible refine Below.setCell ?_ ?_ _) | (with_reducible refine below_after ?_ ?_ _) | (with_reducible refine below_set ?_) | (with_reducible refine After.size_le _ ?_) | (with_reducible refine size_alloc_le ?_) | (with_reducible refine size_set_le ?_) | (with_reducible refine size_drewN_le ?_) | go_size))))) | (go_at_call 16; exact quiet_after (R1.out _ (by (repeat' (first | (with_reducible exact Below.refl _ _) | (with_reducible assumption) | (with_reducible refine Below.alloc ?_ ?_ _) | (with_reducible refine Below.drew ?_) | (with_reducible refine below_drewN ?_ _) | (with_reducible refine Below.setCell ?_ ?_ _) | (with_reducible refine below_after ?_ ?_ _) | (with_reducible refine below_set ?_) | (with_reducible refine After.size_le _ ?_) | (with_reducible refine size_alloc_le ?_) | (with_reducible refine size_set_le ?_) | (with_reducible refine size_drewN_le ?_) | go_size))))) | (go_at_call 17; exact quiet_after (P2.out _)) | (go_at_call 18; exact quiet_after (R2.out _)) | (go_at_call 19; exact quiet_after (P3.out _ (by (repeat' (first | (with_reducible exact Below.refl _ _) | (with_reducible assumption) | (with_reducible refine Below.alloc ?_ ?_ _) | (with_reducible refine Below.drew ?_) | (with_reducible refine below_drewN ?_ _) | (with_reducible refine Below.setCell ?_ ?_ _) | (with_reducible refine below_after ?_ ?_ _) | (with_reducible refine below_set ?_) | (with_reducible refine After.size_le _ ?_) | (with_reducible refine size_alloc_le ?_) | (with_reducible refine size_set_le ?_) | (with_reducible refine size_drewN_le ?_) | go_size))))) | (go_at_call 20; exact quiet_after (R3.out _ (by (repeat' (first | (with_reducible exact Below.refl _ _) | (with_reducible assumption) | (with_reducible refine Below.alloc ?_ ?_ _) | (with_reducible refine Below.drew ?_) | (with_reducible refine below_drewN ?_ _) | (with_reducible refine Below.setCell ?_ ?_ _) | (with_reducible refine below_after ?_ ?_ _) | (with_reducible refine below_set ?_) | (with_reducible refine After.size_le _ ?_) | (with_reducible refine size_alloc_le ?_) | (with_reducible refine size_set_le ?_) | (with_reducible refine size_drewN_le ?_) | go_size))))) | (go_at_call 11; exact quiet_after (HW.out _)))) | (refine wpQuiet_step (fun K hK => ?_); go_simp; first | (refine hK _ ?_; clear hK K) | (apply Exists.intro; refine ⟨fun x => ?_, hK _ ?_⟩; (first | (go_at_call 14; exact quiet_after (HM.out _ (by (repeat' (first | (with_reducible exact Below.refl _ _) | (with_reducible assumption) | (with_reducible refine Below.alloc ?_ ?_ _) | (with_reducible refine Below.drew ?_) | (with_reducible refine below_drewN ?_ _) | (with_reducible refine Below.setCell ?_ ?_ _) | (with_reducible refine below_after ?_ ?_ _) | (with_reducible refine below_set ?_) | (with_reducible refine After.size_le _ ?_) | (with_reducible refine size_alloc_le ?_) | (with_reducible refine size_set_le ?_) | (with_reducible refine size_drewN_le ?_) | go_size))))) | (go_at_call 15; exact quiet_after (P1.out _ (by (repeat' (first | (with_reducible exact Below.refl _ _) | (with_reducible assumption) | (with_reducible refine Below.alloc ?_ ?_ _) | (with_reducible refine Below.drew ?_) | (with_reducible refine below_drewN ?_ _) | (with_reducible refine Below.setCell ?_ ?_ _) | (with_reducible refine below_after ?_ ?_ _) | (with_reducible refine below_set ?_) | (with_reducible refine After.size_le _ ?_) | (with_reducible refine size_alloc_le ?_) | (with_reducible refine size_set_le ?_) | (with_reducible refine size_drewN_le ?_) | go_size))))) | (go_at_call 16; exact quiet_after (R1.out _ (by (repeat' (first | (with_reducible exact Below.refl _ _) | (with_reducible assumption) | (with_reducible refine Below.alloc ?_ ?_ _) | (with_reducible refine Below.drew ?_) | (with_reducible refine below_drewN ?_ _) | (with_reducible refine Below.setCell ?_ ?_ _) | (with_reducible refine below_after ?_ ?_ _) | (with_reducible refine below_set ?_) | (with_reducible refine After.size_le _ ?_) | (with_reducible refine size_alloc_le ?_) | (with_reducible refine size_set_le ?_) | (with_reducible refine size_drewN_le ?_) | go_size))))) | (go_at_call 17; exact quiet_after (P2.out _)) | (go_at_call 18; exact quiet_after (R2.out _)) | (go_at_call 19; exact quiet_after (P3.out _ (by (repeat' (first | (with_reducible exact Below.refl _ _) | (with_reducible assumption) | (with_reducible refine Below.alloc ?_ ?_ _) | (with_reducible refine Below.drew ?_) | (with_reducible refine below_drewN ?_ _) | (with_reducible refine Below.setCell ?_ ?_ _) | (with_reducible refine below_after ?_ ?_ _) | (with_reducible refine below_set ?_) | (with_reducible refine After.size_le _ ?_) | (with_reducible refine size_alloc_le ?_) | (with_reducible refine size_set_le ?_) | (with_reducible refine size_drewN_le ?_) | go_size))))) | (go_at_call 20; exact quiet_after (R3.out _ (by (repeat' (first | (with_reducible exact Below.refl _ _) | (with_reducible assumption) | (with_reducible refine Below.alloc ?_ ?_ _) | (with_reducible refine Below.drew ?_) | (with_reducible refine below_drewN ?_ _) | (with_reducible refine Below.setCell ?_ ?_ _) | (with_reducible refine below_after ?_ ?_ _) | (with_reducible refine below_set ?_) | (with_reducible refine After.size_le _ ?_) | (with_reducible refine size_alloc_le ?_) | (with_reducible refine size_set_le ?_) | (with_reducible refine size_drewN_le ?_) | go_size))))) | (go_at_call 11; exact quiet_after (HW.out _))); clear hK K)))); refine wpQuiet_nil ?_
    intro y
    go_wp2
    go_ret
    exact ⟨rfl, HB3.out.trans (y.out.mono HB3.out.size)⟩
end Go.Proofs.Ytbjdojcenflliaa
