/- RopeGains: the law's walk. -/
import Derived.Test.YtciicijindanlaaTestr
import Derived.Test.YtciicijindanlaaGainm
import Derived.Deep.DeepCutAuto
namespace Go.Proofs.Ytciicijindanlaa
open Go.RowKit
attribute [local go_sem 10000] eql_ratio neq_ratio
attribute [local go_sem] After.cell After.frozen After.lt After.le After.ne After.ne' After.set_eq After.size_set After.lt_add eq2_self

set_option maxRecDepth 100000 in
set_option maxHeartbeats 1000000 in
theorem ropeGains_no (p k q l n : Int) (w : World) (h : ¬ GoodT p k) :
    Calls Try.prog 5 #[.agg #[.int .i64 p, .int .i64 k], .agg #[.int .i64 q, .int .i64 l], .int .i64 n] w fun e w' => e = .returned (.bool true) ∧ Below w.heap.size w w' := by
  have HG := Lib.hid (fun w => gainR_any p k w)
  have HH := Lib.hid (fun w => gainR_any q l w)
  have HP := Lib.hid (fun w => pull_any p k n w)
  have e : lfE p k 1 = 1 ∧ lfE p k n = 1 := by simp [lfE, h]
  rw [e.1] at HG
  rw [e.2] at HP
  generalize lfN p k 1 = gN at *
  generalize lfD p k 1 = gD at *
  generalize lfN q l 1 = hN at *
  generalize lfD q l 1 = hD at *
  generalize lfE q l 1 = hE at *
  generalize puN p k n = uN at *
  clear h e
  go_enter Try.func5, Try.ntmps5
  go_wp2_with fail
  refine calls_after (HG.out _) ?_
  intro x1
  have hz_x1 := x1.out.size; (try simp only [World.size_alloc] at hz_x1); (try simp only [World.size_setCell] at hz_x1); (try simp only [World.size_alloc] at hz_x1); have k0_x1 : w.heap.size < x1.w.heap.size := (by omega); have j0_x1 : w.heap.size < x1.w.heap.size + 1 := (by omega); have k1_x1 : w.heap.size + 1 < x1.w.heap.size := (by omega); have j1_x1 : w.heap.size + 1 < x1.w.heap.size + 1 := (by omega)
  go_wp2_with fail
  refine calls_after (HH.out _) ?_
  intro x2
  have hz_x2 := x2.out.size; (try simp only [World.size_alloc] at hz_x2); (try simp only [World.size_setCell] at hz_x2); (try simp only [World.size_alloc] at hz_x2); have k0_x2 : w.heap.size < x2.w.heap.size := (by omega); have j0_x2 : w.heap.size < x2.w.heap.size + 1 := (by omega); have k1_x2 : w.heap.size + 1 < x2.w.heap.size := (by omega); have j1_x2 : w.heap.size + 1 < x2.w.heap.size + 1 := (by omega); have k2_x2 : x1.w.heap.size < x2.w.heap.size := (by omega); have j2_x2 : x1.w.heap.size < x2.w.heap.size + 1 := (by omega)
  go_wp2_with fail
  refine calls_after (HP.out _) ?_
  intro x3
  have hz_x3 := x3.out.size; (try simp only [World.size_alloc] at hz_x3); (try simp only [World.size_setCell] at hz_x3); (try simp only [World.size_alloc] at hz_x3); have k0_x3 : w.heap.size < x3.w.heap.size := (by omega); have j0_x3 : w.heap.size < x3.w.heap.size + 1 := (by omega); have k1_x3 : w.heap.size + 1 < x3.w.heap.size := (by omega); have j1_x3 : w.heap.size + 1 < x3.w.heap.size + 1 := (by omega); have k2_x3 : x1.w.heap.size < x3.w.heap.size := (by omega); have j2_x3 : x1.w.heap.size < x3.w.heap.size + 1 := (by omega); have k3_x3 : x2.w.heap.size < x3.w.heap.size := (by omega); have j3_x3 : x2.w.heap.size < x3.w.heap.size + 1 := (by omega)
  go_wp2_with fail
  refine calls_after2 (awake_any _) ?_
  intro x4
  go_wp2
  go_ret
  exact ⟨rfl, by (repeat' (first | (with_reducible exact Below.refl _ _) | (with_reducible assumption) | (with_reducible refine Below.alloc ?_ ?_ _) | (with_reducible refine Below.drew ?_) | (with_reducible refine below_drewN ?_ _) | (with_reducible refine Below.setCell ?_ ?_ _) | (with_reducible refine below_after ?_ ?_ _) | (with_reducible refine below_set ?_) | (with_reducible refine After.size_le _ ?_) | (with_reducible refine size_alloc_le ?_) | (with_reducible refine size_set_le ?_) | (with_reducible refine size_drewN_le ?_) | go_size))⟩

set_option maxRecDepth 100000 in
set_option maxHeartbeats 2000000 in
theorem ropeGains_ok (p k q l n : Int) (w : World) (h : GoodT p k) :
    Calls Try.prog 5 #[.agg #[.int .i64 p, .int .i64 k], .agg #[.int .i64 q, .int .i64 l], .int .i64 n] w fun e w' => e = .returned (.bool true) ∧ Below w.heap.size w w' := by
  have HG := Lib.hid (fun w => gainR_any p k w)
  have HH := Lib.hid (fun w => gainR_any q l w)
  have HC := Lib.hid (fun w => rcompare_any (lfN p k 1) (lfD p k 1) (lfN q l 1) (lfD q l 1) w (lf_64 p k 1).1 (lf_64 p k 1).2 (lf_64 q l 1).1 (lf_64 q l 1).2)
  have HL : Hid (lfE q l 1 = 0 → p ≤ q → k ≤ l → cmpR (lfN p k 1) (lfD p k 1) (lfN q l 1) (lfD q l 1) ≤ 0) := fun h1 h2 h3 => gains_more h (by
    by_cases hh : GoodT q l
    · exact hh
    · simp [lfE, hh] at h1) h2 h3
  have H1 : Hid (k = 100 → eq2 (lfN p k 1) (lfD p k 1) p 1 = true) := fun e => by
    subst e; rw [(gains_100 h).1, (gains_100 h).2]; exact eq2_self _ _
  have e : lfE p k 1 = 0 := (lf_good h ld_1).2.2
  rw [e] at HG
  have HP := Lib.hid (fun w => pull_any p k n w)
  have HB : Hid (∀ m w, Calls Try.prog 19 #[.agg #[.int .i64 p, .int .i64 k], .int .i64 m] w fun e w' => e = .returned (.tuple #[.agg #[.int .i64 (lfN p k m), .int .i64 (lfD p k m)], .int .i64 (lfE p k m)]) ∧ Below w.heap.size w w') := fun m w => lifted_any p k m w
  have HM : Hid (lfE p k n = 0 ∨ lfE p k n ≠ 0) := by show _ ∨ _; omega
  generalize cmpR (lfN p k 1) (lfD p k 1) (lfN q l 1) (lfD q l 1) = c at *
  have HT := Lib.hid h
  generalize lfN p k 1 = gN at *
  generalize lfD p k 1 = gD at *
  generalize lfN q l 1 = hN at *
  generalize lfD q l 1 = hD at *
  have HE01 : lfE q l 1 = 0 ∨ lfE q l 1 = 1 := by
    unfold lfE
    split
    · rw [if_pos ld_1]; exact .inl rfl
    · exact .inr rfl
  generalize lfE q l 1 = hE at *
  clear h e
  have HL' : Hid (hE = 0 → ∀ W, p ≤ q → k ≤ l → Calls Try.prog 28 #[.agg #[.int .i64 gN, .int .i64 gD], .agg #[.int .i64 hN, .int .i64 hD]] W fun e w' => e = .returned (.int .i64 c) ∧ c ≤ 0 ∧ Below W.heap.size W w') := fun h0 W h1 h2 => (HC.out W).mono fun _ _ ⟨a, b⟩ => ⟨a, HL.out h0 h1 h2, b⟩
  clear HL HC
  have HL0 : Hid (hE = 0 ∧ (∀ W, p ≤ q → k ≤ l → Calls Try.prog 28 #[.agg #[.int .i64 gN, .int .i64 gD], .agg #[.int .i64 hN, .int .i64 hD]] W fun e w' => e = .returned (.int .i64 c) ∧ c ≤ 0 ∧ Below W.heap.size W w') ∨ hE = 1) := by
    rcases HE01 with h | h
    · exact .inl ⟨h, HL'.out h⟩
    · exact .inr h
  clear HL' HE01
  rcases HL0.out with ⟨rfl, HL1⟩ | rfl
  all_goals
    (try (have HL' := Lib.hid HL1; clear HL1))
    clear HL0
    go_enter Try.func5, Try.ntmps5
    go_wp2_with fail
    refine calls_after (HG.out _) ?_
    intro x1
    have hz_x1 := x1.out.size; (try simp only [World.size_alloc] at hz_x1); (try simp only [World.size_setCell] at hz_x1); (try simp only [World.size_alloc] at hz_x1); have k0_x1 : w.heap.size < x1.w.heap.size := (by omega); have j0_x1 : w.heap.size < x1.w.heap.size + 1 := (by omega); have k1_x1 : w.heap.size + 1 < x1.w.heap.size := (by omega); have j1_x1 : w.heap.size + 1 < x1.w.heap.size + 1 := (by omega)
    go_wp2_with fail
    refine calls_after (HH.out _) ?_
    intro x2
    clear HG HH
    have hz_x2 := x2.out.size; (try simp only [World.size_alloc] at hz_x2); (try simp only [World.size_setCell] at hz_x2); (try simp only [World.size_alloc] at hz_x2); have k0_x2 : w.heap.size < x2.w.heap.size := (by omega); have j0_x2 : w.heap.size < x2.w.heap.size + 1 := (by omega); have k1_x2 : w.heap.size + 1 < x2.w.heap.size := (by omega); have j1_x2 : w.heap.size + 1 < x2.w.heap.size + 1 := (by omega); have k2_x2 : x1.w.heap.size < x2.w.heap.size := (by omega); have j2_x2 : x1.w.heap.size < x2.w.heap.size + 1 := (by omega)
    go_upto_region 3 with (fail)
    go_cut [52] (fun s wx => s = .bool false ∧ ∃ x : After (x2.w.alloc (.cells #[.int .i64 hN, .int .i64 hD] 26)), wx = x.w)
    case first =>
      clear HP HB HM H1
      go_wp2_with (go_at_call 28; refine (HL'.out _ (by assumption) (by assumption)).mono ?_; rintro e w1 ⟨rfl, hc, hw1⟩; have hcd : decide (0 < c) = false := decide_eq_false (by omega); obtain ⟨y, rfl⟩ : ∃ y : After (x2.w.alloc (.cells #[.int .i64 hN, .int .i64 hD] 26)), w1 = y.w := ⟨⟨_, hw1⟩, rfl⟩)
      all_goals (go_meet; case rel => exact ⟨rfl, by first | exact ⟨_, rfl⟩ | exact ⟨⟨_, Below.refl _ _⟩, rfl⟩⟩)
    case rest =>
      obtain ⟨rfl, x3, rfl⟩ := hcut
      have hz_x3 := x3.out.size; (try simp only [World.size_alloc] at hz_x3); (try simp only [World.size_setCell] at hz_x3); (try simp only [World.size_alloc] at hz_x3); have k0_x3 : w.heap.size < x3.w.heap.size := (by omega); have j0_x3 : w.heap.size < x3.w.heap.size + 1 := (by omega); have k1_x3 : w.heap.size + 1 < x3.w.heap.size := (by omega); have j1_x3 : w.heap.size + 1 < x3.w.heap.size + 1 := (by omega); have k2_x3 : x1.w.heap.size < x3.w.heap.size := (by omega); have j2_x3 : x1.w.heap.size < x3.w.heap.size + 1 := (by omega); have k3_x3 : x2.w.heap.size < x3.w.heap.size := (by omega); have j3_x3 : x2.w.heap.size < x3.w.heap.size + 1 := (by omega)
      go_upto_region 5 with (fail)
      go_cut [66] (fun s wx => s = .bool false ∧ ∃ x : After (x2.w.alloc (.cells #[.int .i64 hN, .int .i64 hD] 26)), wx = x.w)
      case first =>
        clear HP HB HM; (try clear HL')
        by_cases hk : k = 100
        · have h1 := H1.out hk
          have hk' : (k == 100) = true := by simpa using hk
          clear hk
          go_wp2
          all_goals (go_meet; case rel => exact ⟨rfl, _, rfl⟩)
        · have hk' : (k == 100) = false := by simpa using hk
          clear hk
          go_wp2
          all_goals (go_meet; case rel => exact ⟨rfl, _, rfl⟩)
      case rest =>
        obtain ⟨rfl, x4, rfl⟩ := hcut
        have hz_x4 := x4.out.size; (try simp only [World.size_alloc] at hz_x4); (try simp only [World.size_setCell] at hz_x4); (try simp only [World.size_alloc] at hz_x4); have k0_x4 : w.heap.size < x4.w.heap.size := (by omega); have j0_x4 : w.heap.size < x4.w.heap.size + 1 := (by omega); have k1_x4 : w.heap.size + 1 < x4.w.heap.size := (by omega); have j1_x4 : w.heap.size + 1 < x4.w.heap.size + 1 := (by omega); have k2_x4 : x1.w.heap.size < x4.w.heap.size := (by omega); have j2_x4 : x1.w.heap.size < x4.w.heap.size + 1 := (by omega); have k3_x4 : x2.w.heap.size < x4.w.heap.size := (by omega); have j3_x4 : x2.w.heap.size < x4.w.heap.size + 1 := (by omega)
        clear H1; (try clear HL')
        by_cases hn : Ld n
        · obtain ⟨pL, pc, p0, p1⟩ := pull_lifts HT.out hn
          have e2 : puN p k n = plN p k n ∧ lfE p k n = 0 := by simp [puN, lfE, HT.out, hn]
          have e3 := (lf_good HT.out pL).2.2
          have HN1 : Hid (In64 n) := by show _ ∧ _; obtain ⟨a1, a2⟩ := hn; omega
          have H1' : Hid (In64 1) := by show _ ∧ _; omega
          rw [e2.1, e2.2] at HP
          have HBP := Lib.hid (HB.out (plN p k n))
          rw [e3] at HBP
          have HQ : Hid (1 ≤ plN p k n → ∀ W, Calls Try.prog 19 #[.agg #[.int .i64 p, .int .i64 k], .int .i64 (plN p k n - 1)] W fun e w' => e = .returned (.tuple #[.agg #[.int .i64 (lfN p k (plN p k n - 1)), .int .i64 (lfD p k (plN p k n - 1))], .int .i64 0]) ∧ Below W.heap.size W w') := fun h W => by
            have := HB.out (plN p k n - 1) W
            rw [(lf_good HT.out (p1 h).1).2.2] at this
            exact this
          have HCP := Lib.hid (fun W => rcompare_any (lfN p k (plN p k n)) (lfD p k (plN p k n)) n 1 W (lf_64 _ _ _).1 (lf_64 _ _ _).2 HN1.out H1'.out)
          have HCQ := Lib.hid (fun W => rcompare_any (lfN p k (plN p k n - 1)) (lfD p k (plN p k n - 1)) n 1 W (lf_64 _ _ _).1 (lf_64 _ _ _).2 HN1.out H1'.out)
          have hcd : decide (cmpR (lfN p k (plN p k n)) (lfD p k (plN p k n)) n 1 < 0) = false := decide_eq_false (by omega)
          have HCD : Hid (1 ≤ plN p k n → decide (cmpR (lfN p k (plN p k n - 1)) (lfD p k (plN p k n - 1)) n 1 < 0) = true) := fun h => decide_eq_true (p1 h).2
          have P0 := Lib.hid p0
          have hPb := pL
          obtain ⟨b1, b2⟩ := hPb
          clear HB p0 p1 pc e2 e3 pL hn HN1 H1'
          generalize cmpR (lfN p k (plN p k n)) (lfD p k (plN p k n)) n 1 = c1 at *
          generalize cmpR (lfN p k (plN p k n - 1)) (lfD p k (plN p k n - 1)) n 1 = c2 at *
          generalize lfN p k (plN p k n) = aN at *
          generalize lfD p k (plN p k n) = aD at *
          generalize lfN p k (plN p k n - 1) = bN at *
          generalize lfD p k (plN p k n - 1) = bD at *
          generalize plN p k n = P at *
          by_cases hP : P ≤ 0
          · obtain ⟨rfl, rfl⟩ := P0.out hP
            clear HQ HCQ HCD P0
            go_wp2_with fail
            refine calls_after2 (HP.out _) ?_
            intro x5
            have hz_x5 := x5.out.size; (try simp only [World.size_alloc] at hz_x5); (try simp only [World.size_setCell] at hz_x5); (try simp only [World.size_alloc] at hz_x5); have k0_x5 : w.heap.size < x5.w.heap.size := (by omega); have j0_x5 : w.heap.size < x5.w.heap.size + 1 := (by omega); have k1_x5 : w.heap.size + 1 < x5.w.heap.size := (by omega); have j1_x5 : w.heap.size + 1 < x5.w.heap.size + 1 := (by omega); have k2_x5 : x1.w.heap.size < x5.w.heap.size := (by omega); have j2_x5 : x1.w.heap.size < x5.w.heap.size + 1 := (by omega); have k3_x5 : x2.w.heap.size < x5.w.heap.size := (by omega); have j3_x5 : x2.w.heap.size < x5.w.heap.size + 1 := (by omega)
            go_wp2_with fail
            refine calls_after2 (HBP.out _) ?_
            intro x6
            have hz_x6 := x6.out.size; (try simp only [World.size_alloc] at hz_x6); (try simp only [World.size_setCell] at hz_x6); (try simp only [World.size_alloc] at hz_x6); have k0_x6 : w.heap.size < x6.w.heap.size := (by omega); have j0_x6 : w.heap.size < x6.w.heap.size + 1 := (by omega); have k1_x6 : w.heap.size + 1 < x6.w.heap.size := (by omega); have j1_x6 : w.heap.size + 1 < x6.w.heap.size + 1 := (by omega); have k2_x6 : x1.w.heap.size < x6.w.heap.size := (by omega); have j2_x6 : x1.w.heap.size < x6.w.heap.size + 1 := (by omega); have k3_x6 : x2.w.heap.size < x6.w.heap.size := (by omega); have j3_x6 : x2.w.heap.size < x6.w.heap.size + 1 := (by omega)
            go_wp2_with fail
            refine calls_after (HCP.out _) ?_
            intro x7
            have hz_x7 := x7.out.size; (try simp only [World.size_alloc] at hz_x7); (try simp only [World.size_setCell] at hz_x7); (try simp only [World.size_alloc] at hz_x7); have k0_x7 : w.heap.size < x7.w.heap.size := (by omega); have j0_x7 : w.heap.size < x7.w.heap.size + 1 := (by omega); have k1_x7 : w.heap.size + 1 < x7.w.heap.size := (by omega); have j1_x7 : w.heap.size + 1 < x7.w.heap.size + 1 := (by omega); have k2_x7 : x1.w.heap.size < x7.w.heap.size := (by omega); have j2_x7 : x1.w.heap.size < x7.w.heap.size + 1 := (by omega); have k3_x7 : x2.w.heap.size < x7.w.heap.size := (by omega); have j3_x7 : x2.w.heap.size < x7.w.heap.size + 1 := (by omega); have k4_x7 : x6.w.heap.size < x7.w.heap.size := (by omega); have j4_x7 : x6.w.heap.size < x7.w.heap.size + 1 := (by omega)
            go_wp2_with fail
            refine calls_after2 (awake_any _) ?_
            intro x8
            go_wp2
            go_ret
            exact ⟨rfl, by (repeat' (first | (with_reducible exact Below.refl _ _) | (with_reducible assumption) | (with_reducible refine Below.alloc ?_ ?_ _) | (with_reducible refine Below.drew ?_) | (with_reducible refine below_drewN ?_ _) | (with_reducible refine Below.setCell ?_ ?_ _) | (with_reducible refine below_after ?_ ?_ _) | (with_reducible refine below_set ?_) | (with_reducible refine After.size_le _ ?_) | (with_reducible refine size_alloc_le ?_) | (with_reducible refine size_set_le ?_) | (with_reducible refine size_drewN_le ?_) | go_size))⟩
          · have hP1 : 1 ≤ P := by omega
            have HQ1 := Lib.hid (HQ.out hP1)
            have hcd2 := HCD.out hP1
            clear HQ HCD P0 hP
            go_wp2_with fail
            refine calls_after2 (HP.out _) ?_
            intro x5
            have hz_x5 := x5.out.size; (try simp only [World.size_alloc] at hz_x5); (try simp only [World.size_setCell] at hz_x5); (try simp only [World.size_alloc] at hz_x5); have k0_x5 : w.heap.size < x5.w.heap.size := (by omega); have j0_x5 : w.heap.size < x5.w.heap.size + 1 := (by omega); have k1_x5 : w.heap.size + 1 < x5.w.heap.size := (by omega); have j1_x5 : w.heap.size + 1 < x5.w.heap.size + 1 := (by omega); have k2_x5 : x1.w.heap.size < x5.w.heap.size := (by omega); have j2_x5 : x1.w.heap.size < x5.w.heap.size + 1 := (by omega); have k3_x5 : x2.w.heap.size < x5.w.heap.size := (by omega); have j3_x5 : x2.w.heap.size < x5.w.heap.size + 1 := (by omega)
            go_wp2_with fail
            refine calls_after2 (HBP.out _) ?_
            intro x6
            have hz_x6 := x6.out.size; (try simp only [World.size_alloc] at hz_x6); (try simp only [World.size_setCell] at hz_x6); (try simp only [World.size_alloc] at hz_x6); have k0_x6 : w.heap.size < x6.w.heap.size := (by omega); have j0_x6 : w.heap.size < x6.w.heap.size + 1 := (by omega); have k1_x6 : w.heap.size + 1 < x6.w.heap.size := (by omega); have j1_x6 : w.heap.size + 1 < x6.w.heap.size + 1 := (by omega); have k2_x6 : x1.w.heap.size < x6.w.heap.size := (by omega); have j2_x6 : x1.w.heap.size < x6.w.heap.size + 1 := (by omega); have k3_x6 : x2.w.heap.size < x6.w.heap.size := (by omega); have j3_x6 : x2.w.heap.size < x6.w.heap.size + 1 := (by omega)
            go_wp2_with fail
            refine calls_after (HCP.out _) ?_
            intro x7
            have hz_x7 := x7.out.size; (try simp only [World.size_alloc] at hz_x7); (try simp only [World.size_setCell] at hz_x7); (try simp only [World.size_alloc] at hz_x7); have k0_x7 : w.heap.size < x7.w.heap.size := (by omega); have j0_x7 : w.heap.size < x7.w.heap.size + 1 := (by omega); have k1_x7 : w.heap.size + 1 < x7.w.heap.size := (by omega); have j1_x7 : w.heap.size + 1 < x7.w.heap.size + 1 := (by omega); have k2_x7 : x1.w.heap.size < x7.w.heap.size := (by omega); have j2_x7 : x1.w.heap.size < x7.w.heap.size + 1 := (by omega); have k3_x7 : x2.w.heap.size < x7.w.heap.size := (by omega); have j3_x7 : x2.w.heap.size < x7.w.heap.size + 1 := (by omega); have k4_x7 : x6.w.heap.size < x7.w.heap.size := (by omega); have j4_x7 : x6.w.heap.size < x7.w.heap.size + 1 := (by omega)
            go_wp2_with fail
            refine calls_after2 (HQ1.out _) ?_
            intro x8
            have hz_x8 := x8.out.size; (try simp only [World.size_alloc] at hz_x8); (try simp only [World.size_setCell] at hz_x8); (try simp only [World.size_alloc] at hz_x8); have k0_x8 : w.heap.size < x8.w.heap.size := (by omega); have j0_x8 : w.heap.size < x8.w.heap.size + 1 := (by omega); have k1_x8 : w.heap.size + 1 < x8.w.heap.size := (by omega); have j1_x8 : w.heap.size + 1 < x8.w.heap.size + 1 := (by omega); have k2_x8 : x1.w.heap.size < x8.w.heap.size := (by omega); have j2_x8 : x1.w.heap.size < x8.w.heap.size + 1 := (by omega); have k3_x8 : x2.w.heap.size < x8.w.heap.size := (by omega); have j3_x8 : x2.w.heap.size < x8.w.heap.size + 1 := (by omega); have k4_x8 : x6.w.heap.size < x8.w.heap.size := (by omega); have j4_x8 : x6.w.heap.size < x8.w.heap.size + 1 := (by omega)
            go_wp2_with fail
            refine calls_after (HCQ.out _) ?_
            intro x9
            have hz_x9 := x9.out.size; (try simp only [World.size_alloc] at hz_x9); (try simp only [World.size_setCell] at hz_x9); (try simp only [World.size_alloc] at hz_x9); have k0_x9 : w.heap.size < x9.w.heap.size := (by omega); have j0_x9 : w.heap.size < x9.w.heap.size + 1 := (by omega); have k1_x9 : w.heap.size + 1 < x9.w.heap.size := (by omega); have j1_x9 : w.heap.size + 1 < x9.w.heap.size + 1 := (by omega); have k2_x9 : x1.w.heap.size < x9.w.heap.size := (by omega); have j2_x9 : x1.w.heap.size < x9.w.heap.size + 1 := (by omega); have k3_x9 : x2.w.heap.size < x9.w.heap.size := (by omega); have j3_x9 : x2.w.heap.size < x9.w.heap.size + 1 := (by omega); have k4_x9 : x6.w.heap.size < x9.w.heap.size := (by omega); have j4_x9 : x6.w.heap.size < x9.w.heap.size + 1 := (by omega); have k5_x9 : x8.w.heap.size < x9.w.heap.size := (by omega); have j5_x9 : x8.w.heap.size < x9.w.heap.size + 1 := (by omega)
            go_wp2_with fail
            refine calls_after2 (awake_any _) ?_
            intro x10
            go_wp2
            go_ret
            exact ⟨rfl, by (repeat' (first | (with_reducible exact Below.refl _ _) | (with_reducible assumption) | (with_reducible refine Below.alloc ?_ ?_ _) | (with_reducible refine Below.drew ?_) | (with_reducible refine below_drewN ?_ _) | (with_reducible refine Below.setCell ?_ ?_ _) | (with_reducible refine below_after ?_ ?_ _) | (with_reducible refine below_set ?_) | (with_reducible refine After.size_le _ ?_) | (with_reducible refine size_alloc_le ?_) | (with_reducible refine size_set_le ?_) | (with_reducible refine size_drewN_le ?_) | go_size))⟩
        · have e2 : lfE p k n = 7 := by simp [lfE, HT.out, hn]
          rw [e2] at HP
          generalize puN p k n = u at *
          clear HB HM HT e2 hn
          go_wp2_with fail
          refine calls_after2 (HP.out _) ?_
          intro x5
          go_wp2_with fail
          refine calls_after2 (awake_any _) ?_
          intro x6
          go_wp2
          go_ret
          exact ⟨rfl, by (repeat' (first | (with_reducible exact Below.refl _ _) | (with_reducible assumption) | (with_reducible refine Below.alloc ?_ ?_ _) | (with_reducible refine Below.drew ?_) | (with_reducible refine below_drewN ?_ _) | (with_reducible refine Below.setCell ?_ ?_ _) | (with_reducible refine below_after ?_ ?_ _) | (with_reducible refine below_set ?_) | (with_reducible refine After.size_le _ ?_) | (with_reducible refine size_alloc_le ?_) | (with_reducible refine size_set_le ?_) | (with_reducible refine size_drewN_le ?_) | go_size))⟩

theorem ropeGains_any (p k q l n : Int) (w : World) :
    Calls Try.prog 5 #[.agg #[.int .i64 p, .int .i64 k], .agg #[.int .i64 q, .int .i64 l], .int .i64 n] w fun e w' => e = .returned (.bool true) ∧ Below w.heap.size w w' := by
  by_cases h : GoodT p k
  · exact ropeGains_ok p k q l n w h
  · exact ropeGains_no p k q l n w h
end Go.Proofs.Ytciicijindanlaa
