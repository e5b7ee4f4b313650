/- Reach, in the program and in the reference. -/
import Derived.Test.YtbjdojcenflliaaLdt
import Derived.Test.YtbjdojcenflliaaLdpw
namespace Go.Proofs.Ytbjdojcenflliaa
open Go.RowKit Go.Shelf
attribute [local go_sem] Oper.semAt_some
attribute [local go_sem] After.cell After.frozen After.lt After.le After.ne After.ne' After.set_eq After.size_set After.lt_add

theorem hi_step {h : Nat → Int} {u : Nat → Bool} {N : Nat} {fi st : Int} (hs : ∀ i j, i < j → j < N → h i < h j) (hp : ∀ k, k < N → 1 ≤ h k) {k : Nat} (hk : k < N) : h k ≤ (hiS h u fi st k).2 ↔ (h k ≤ fi ∨ (0 < (hiS h u fi st k).1 ∧ h k - (hiS h u fi st k).1 ≤ st)) := by
  obtain ⟨i1, i2, i3, i4⟩ := hiS_all (fi := fi) (st := st) (u := u) hs k (by omega)
  constructor
  · intro hle
    rcases i3 with e | ⟨j, hj, hr, e⟩
    · exact .inl (by omega)
    · have h1 := (i1 j hj hr).1
      have h2 := hp j (by omega)
      exact .inr ⟨by omega, by omega⟩
  · rintro (h1 | ⟨h1, h2⟩)
    · omega
    · rcases i2 with e | ⟨j, hj, hr, e⟩
      · omega
      · have h3 := (i1 j hj hr).2
        omega
set_option maxRecDepth 100000 in
set_option maxHeartbeats 2000000 in
theorem rreach_any (fi ga tp le lp sg : Int) (a : Option Addr) (n cap : Nat) (hg : Nat → Int) (sd : Nat → Bool) (w : World) (hA : JtAt w a n hg sd) (hv : VjP n hg) :
    Calls Try.prog 57 #[.agg #[.int .i64 fi, .int .i64 ga, .int .i64 tp, .int .i64 le, .int .i64 lp, .int .i64 sg], .slice a n cap] w fun e w' => e = .returned (.int .i64 (hiS hg sd fi ga n).1) ∧ Below w.heap.size w w' := by
  have hnI : (n : Int) ≤ 200 := by have := hv.1; omega
  have HA := Lib.hid hA
  have HP := Lib.hid (fun k hk => vjT_pos hv.2 (i := k) hk)
  have HSt := Lib.hid (fun k hk => hi_step (u := sd) (fi := fi) (st := ga) (k := k) (fun i j (h1 : i < j) (h2 : j < n) => vjT_lt hv.2 h1 h2) (fun k hk => (vjT_pos hv.2 (i := k) hk).1) hk)
  have HLt := Lib.hid (fun i j (h1 : i < j) (h2 : j < n) => vjT_lt hv.2 h1 h2)
  clear hA hv
  go_enter Try.func57, Try.ntmps57
  obtain ⟨W0, hW0⟩ : ∃ W0, w.alloc (.cells #[.int .i64 fi, .int .i64 ga, .int .i64 tp, .int .i64 le, .int .i64 lp, .int .i64 sg] 23) = W0 := ⟨_, rfl⟩
  have B0 : Hid (Below w.heap.size w W0) := Lib.hid (by rw [← hW0]; (repeat' (first | (with_reducible exact Below.refl _ _) | (with_reducible assumption) | (with_reducible refine Below.alloc ?_ ?_ _) | (with_reducible refine Below.drew ?_) | (with_reducible refine below_drewN ?_ _) | (with_reducible refine Below.setCell ?_ ?_ _) | (with_reducible refine below_after ?_ ?_ _) | (with_reducible refine below_set ?_) | (with_reducible refine After.size_le _ ?_) | (with_reducible refine size_alloc_le ?_) | (with_reducible refine size_set_le ?_) | (with_reducible refine size_drewN_le ?_) | go_size)))
  have q0 : W0.cell? ⟨w.heap.size, 0, none⟩ = some (.int .i64 fi) := by rw [← hW0]; simp [go_sem]
  have q1 : W0.cell? ⟨w.heap.size, 1, none⟩ = some (.int .i64 ga) := by rw [← hW0]; simp [go_sem]
  have HA0 := Lib.hid (HA.out.on B0.out)
  go_wp2
  clear hW0 HA
  go_loopw [5, 6] (fun f i W => ∃ k : Nat, k ≤ n ∧ i = .int .i64 k ∧ f = .int .i64 (hiS hg sd fi ga k).1 ∧ W = W0) (fun _ i _ => n - (intOf i).toNat)
  case atStart => exact ⟨0, Nat.zero_le _, rfl, rfl, rfl⟩
  case round =>
    obtain ⟨k, hk, rfl, rfl, rfl⟩ := hrel
    by_cases hlt : k < n
    · have hlti : (k : Int) < (n : Int) := by omega
      obtain ⟨b, off, rfl, hbb, c0, c1⟩ := HA0.out k hlt
      have hgk := HP.out k hlt
      obtain ⟨hgk0, hgk1⟩ := hgk
      have HS : Hid (hiS hg sd fi ga (k + 1) = if sd k = true ∧ hg k ≤ (hiS hg sd fi ga k).2 then (hg k, max (hiS hg sd fi ga k).2 (hg k + ga)) else hiS hg sd fi ga k) := Lib.hid rfl
      have HSk := Lib.hid (HSt.out k hlt)
      have hH : 0 ≤ (hiS hg sd fi ga k).1 ∧ (hiS hg sd fi ga k).1 ≤ 200000 := by
        obtain ⟨-, i2, -, -⟩ := hiS_all (u := sd) (fi := fi) (st := ga) (N := n) HLt.out k (by omega)
        rcases i2 with e | ⟨j, hj, hr, e⟩
        · omega
        · have := HP.out j (by omega); omega
      obtain ⟨x, hx⟩ : ∃ x : Int × Int, hiS hg sd fi ga k = x := ⟨_, rfl⟩
      obtain ⟨vH, vT⟩ := x
      rw [hx] at HS HSk hH ⊢
      clear hx
      generalize hg k = v at *
      dsimp only at HS HSk hH ⊢
      obtain ⟨hH0, hH1⟩ := hH
      cases hsd : sd k
      · rw [hsd] at HS c1
        clear hsd
        rw [if_neg (fun h => by cases h.1)] at HS
        clear HSk
        go_wp2
        go_roundw
        case rel => exact ⟨k + 1, by omega, by go_num, by rw [HS.out], by first | rfl | trivial⟩
        case measure => simp [intOf]; omega
      · rw [hsd] at HS c1
        clear hsd
        by_cases d1 : v ≤ fi
        · have d1b : decide (v ≤ fi) = true := decide_eq_true d1
          rw [if_pos ⟨rfl, HSk.out.2 (.inl d1)⟩] at HS
          clear HSk
          go_wp2
          go_roundw
          case rel => exact ⟨k + 1, by omega, by go_num, by rw [HS.out], by first | rfl | trivial⟩
          case measure => simp [intOf]; omega
        · have d1b : decide (v ≤ fi) = false := decide_eq_false d1
          by_cases d2 : 0 < vH
          · have d2b : decide (0 < vH) = true := decide_eq_true d2
            by_cases d3 : v - vH ≤ ga
            · have d3b : decide (v - vH ≤ ga) = true := decide_eq_true d3
              rw [if_pos ⟨rfl, HSk.out.2 (.inr ⟨d2, d3⟩)⟩] at HS
              clear HSk
              go_wp2
              go_roundw
              case rel => exact ⟨k + 1, by omega, by go_num, by rw [HS.out], by first | rfl | trivial⟩
              case measure => simp [intOf]; omega
            · have d3b : decide (v - vH ≤ ga) = false := decide_eq_false d3
              rw [if_neg (fun h => (HSk.out.1 h.2).elim d1 (fun q => d3 q.2))] at HS
              clear HSk
              go_wp2
              go_roundw
              case rel => exact ⟨k + 1, by omega, by go_num, by rw [HS.out], by first | rfl | trivial⟩
              case measure => simp [intOf]; omega
          · have d2b : decide (0 < vH) = false := decide_eq_false d2
            rw [if_neg (fun h => (HSk.out.1 h.2).elim d1 (fun q => d2 q.1))] at HS
            clear HSk
            go_wp2
            go_roundw
            case rel => exact ⟨k + 1, by omega, by go_num, by rw [HS.out], by first | rfl | trivial⟩
            case measure => simp [intOf]; omega
    · obtain rfl : k = n := by omega
      go_wp2
      go_ret
      exact ⟨rfl, B0.out⟩
section
variable (fi ga tp le lp sg : Int) (a : Option Addr) (n cap : Nat) (hg : Nat → Int) (sd : Nat → Bool) (w : World) (hA : JtAt w a n hg sd) (hn : n ≤ 9223372036854775807)
include hA hn
set_option maxRecDepth 100000 in
set_option maxHeartbeats 1000000 in
theorem Reach_bad (hv : ¬ (VcP fi ga tp le lp sg ∧ VjP n hg)) : Calls Try.prog 26 #[.agg #[.int .i64 fi, .int .i64 ga, .int .i64 tp, .int .i64 le, .int .i64 lp, .int .i64 sg], .slice a n cap] w fun e w' => e = .returned (.tuple #[.int .i64 0, .int .i64 1]) ∧ Below w.heap.size w w' := by
  have HV := Lib.hid (fun W (hW : Below w.heap.size w W) => wvalid_any fi ga tp le lp sg a n cap hg sd W (hA.on hW) hn)
  have hd : (decide (VcP fi ga tp le lp sg) && decide (VjP n hg)) = false := by
    rw [← Bool.not_eq_true, Bool.and_eq_true, decide_eq_true_eq, decide_eq_true_eq]; exact hv
  rw [hd] at HV
  clear hA
  go_enter Try.func26, Try.ntmps26
  go_wp2_with fail
  refine calls_after (HV.out _ (by (repeat' (first | (with_reducible exact Below.refl _ _) | (with_reducible assumption) | (with_reducible refine Below.alloc ?_ ?_ _) | (with_reducible refine Below.drew ?_) | (with_reducible refine below_drewN ?_ _) | (with_reducible refine Below.setCell ?_ ?_ _) | (with_reducible refine below_after ?_ ?_ _) | (with_reducible refine below_set ?_) | (with_reducible refine After.size_le _ ?_) | (with_reducible refine size_alloc_le ?_) | (with_reducible refine size_set_le ?_) | (with_reducible refine size_drewN_le ?_) | go_size)))) ?_
  intro x1
  go_wp2
  go_returns
  exact ⟨rfl, by (repeat' (first | (with_reducible exact Below.refl _ _) | (with_reducible assumption) | (with_reducible refine Below.alloc ?_ ?_ _) | (with_reducible refine Below.drew ?_) | (with_reducible refine below_drewN ?_ _) | (with_reducible refine Below.setCell ?_ ?_ _) | (with_reducible refine below_after ?_ ?_ _) | (with_reducible refine below_set ?_) | (with_reducible refine After.size_le _ ?_) | (with_reducible refine size_alloc_le ?_) | (with_reducible refine size_set_le ?_) | (with_reducible refine size_drewN_le ?_) | go_size))⟩
set_option maxRecDepth 100000 in
set_option maxHeartbeats 1000000 in
theorem Reach_ok (hc : VcP fi ga tp le lp sg) (hj : VjP n hg) : Calls Try.prog 26 #[.agg #[.int .i64 fi, .int .i64 ga, .int .i64 tp, .int .i64 le, .int .i64 lp, .int .i64 sg], .slice a n cap] w fun e w' => e = .returned (.tuple #[.int .i64 (hiS hg sd fi ga n).1, .int .i64 0]) ∧ Below w.heap.size w w' := by
  have HV := Lib.hid (fun W (hW : Below w.heap.size w W) => wvalid_any fi ga tp le lp sg a n cap hg sd W (hA.on hW) hn)
  have hd : (decide (VcP fi ga tp le lp sg) && decide (VjP n hg)) = true := by simp [hc, hj]
  rw [hd] at HV
  have HA := Lib.hid hA
  have hn2 : n ≤ 1000 := by have := hj.1; omega
  have hga : 1 ≤ ga ∧ ga ≤ 200000 := hc.2.1
  have htp : 1 ≤ tp ∧ tp ≤ 200000 := hc.2.2.1
  have HF := Lib.hid (fun W hW => forDogs_any fi ga tp le lp sg a n cap hg sd W hW hn hn2 hga htp)
  have HH := Lib.hid (fun a cap W hW => highest_any a n cap hg sd fi ga (tp - ga) W hW hn2 (fun k hk => by have := vjT_pos hj.2 hk; omega) (by omega))
  clear hA hd hga htp
  go_enter Try.func26, Try.ntmps26
  go_wp2_with fail
  refine calls_after (HV.out _ (by (repeat' (first | (with_reducible exact Below.refl _ _) | (with_reducible assumption) | (with_reducible refine Below.alloc ?_ ?_ _) | (with_reducible refine Below.drew ?_) | (with_reducible refine below_drewN ?_ _) | (with_reducible refine Below.setCell ?_ ?_ _) | (with_reducible refine below_after ?_ ?_ _) | (with_reducible refine below_set ?_) | (with_reducible refine After.size_le _ ?_) | (with_reducible refine size_alloc_le ?_) | (with_reducible refine size_set_le ?_) | (with_reducible refine size_drewN_le ?_) | go_size)))) ?_
  intro x1
  go_wp2_with fail
  have HB2 : Hid (Below w.heap.size w x1.w) := Lib.hid (by (repeat' (first | (with_reducible exact Below.refl _ _) | (with_reducible assumption) | (with_reducible refine Below.alloc ?_ ?_ _) | (with_reducible refine Below.drew ?_) | (with_reducible refine below_drewN ?_ _) | (with_reducible refine Below.setCell ?_ ?_ _) | (with_reducible refine below_after ?_ ?_ _) | (with_reducible refine below_set ?_) | (with_reducible refine After.size_le _ ?_) | (with_reducible refine size_alloc_le ?_) | (with_reducible refine size_set_le ?_) | (with_reducible refine size_drewN_le ?_) | go_size)))
  refine (HF.out _ (HA.out.on HB2.out)).mono ?_
  rintro e w3 ⟨⟨v3, rfl, ho3⟩, hb3⟩
  have HB3 := Lib.hid (HB2.out.trans (hb3.mono HB2.out.size))
  obtain ⟨a3, cap3, rfl, hj3, _⟩ := jt_row ho3
  have HJ3 := Lib.hid hj3
  clear hb3 hj3 ho3
  go_wp2_with fail
  refine (HH.out a3 cap3 w3 HJ3.out).mono ?_
  rintro e w5 ⟨rfl, hb5⟩
  have B5 := Lib.hid (HB3.out.trans (hb5.mono HB3.out.size))
  clear hb5
  go_wp2
  go_returns
  exact ⟨rfl, B5.out⟩
set_option maxRecDepth 100000 in
set_option maxHeartbeats 1000000 in
theorem rReach_bad (hv : ¬ (VcP fi ga tp le lp sg ∧ VjP n hg)) : Calls Try.prog 27 #[.agg #[.int .i64 fi, .int .i64 ga, .int .i64 tp, .int .i64 le, .int .i64 lp, .int .i64 sg], .slice a n cap] w fun e w' => e = .returned (.tuple #[.int .i64 0, .int .i64 1]) ∧ Below w.heap.size w w' := by
  have HV := Lib.hid (fun W (hW : Below w.heap.size w W) => rbad_any fi ga tp le lp sg a n cap hg sd W (hA.on hW) hn (q := true) (by simp [hv]))
  clear hA
  go_enter Try.func27, Try.ntmps27
  go_wp2_with fail
  refine calls_after (HV.out _ (by (repeat' (first | (with_reducible exact Below.refl _ _) | (with_reducible assumption) | (with_reducible refine Below.alloc ?_ ?_ _) | (with_reducible refine Below.drew ?_) | (with_reducible refine below_drewN ?_ _) | (with_reducible refine Below.setCell ?_ ?_ _) | (with_reducible refine below_after ?_ ?_ _) | (with_reducible refine below_set ?_) | (with_reducible refine After.size_le _ ?_) | (with_reducible refine size_alloc_le ?_) | (with_reducible refine size_set_le ?_) | (with_reducible refine size_drewN_le ?_) | go_size)))) ?_
  intro x1
  go_wp2
  go_returns
  exact ⟨rfl, by (repeat' (first | (with_reducible exact Below.refl _ _) | (with_reducible assumption) | (with_reducible refine Below.alloc ?_ ?_ _) | (with_reducible refine Below.drew ?_) | (with_reducible refine below_drewN ?_ _) | (with_reducible refine Below.setCell ?_ ?_ _) | (with_reducible refine below_after ?_ ?_ _) | (with_reducible refine below_set ?_) | (with_reducible refine After.size_le _ ?_) | (with_reducible refine size_alloc_le ?_) | (with_reducible refine size_set_le ?_) | (with_reducible refine size_drewN_le ?_) | go_size))⟩
set_option maxRecDepth 100000 in
set_option maxHeartbeats 1000000 in
theorem rReach_ok (hc : VcP fi ga tp le lp sg) (hj : VjP n hg) : Calls Try.prog 27 #[.agg #[.int .i64 fi, .int .i64 ga, .int .i64 tp, .int .i64 le, .int .i64 lp, .int .i64 sg], .slice a n cap] w fun e w' => e = .returned (.tuple #[.int .i64 (hiS hg sd fi ga n).1, .int .i64 0]) ∧ Below w.heap.size w w' := by
  have HV := Lib.hid (fun W (hW : Below w.heap.size w W) => rbad_any fi ga tp le lp sg a n cap hg sd W (hA.on hW) hn (q := false) (by simp [hc, hj]))
  have HR := Lib.hid (fun W (hW : Below w.heap.size w W) => rreach_any fi ga tp le lp sg a n cap hg sd W (hA.on hW) hj)
  clear hA
  go_enter Try.func27, Try.ntmps27
  go_wp2_with fail
  refine calls_after (HV.out _ (by (repeat' (first | (with_reducible exact Below.refl _ _) | (with_reducible assumption) | (with_reducible refine Below.alloc ?_ ?_ _) | (with_reducible refine Below.drew ?_) | (with_reducible refine below_drewN ?_ _) | (with_reducible refine Below.setCell ?_ ?_ _) | (with_reducible refine below_after ?_ ?_ _) | (with_reducible refine below_set ?_) | (with_reducible refine After.size_le _ ?_) | (with_reducible refine size_alloc_le ?_) | (with_reducible refine size_set_le ?_) | (with_reducible refine size_drewN_le ?_) | go_size)))) ?_
  intro x1
  go_wp2_with fail
  refine calls_after2 (HR.out _ (by (repeat' (first | (with_reducible exact Below.refl _ _) | (with_reducible assumption) | (with_reducible refine Below.alloc ?_ ?_ _) | (with_reducible refine Below.drew ?_) | (with_reducible refine below_drewN ?_ _) | (with_reducible refine Below.setCell ?_ ?_ _) | (with_reducible refine below_after ?_ ?_ _) | (with_reducible refine below_set ?_) | (with_reducible refine After.size_le _ ?_) | (with_reducible refine size_alloc_le ?_) | (with_reducible refine size_set_le ?_) | (with_reducible refine size_drewN_le ?_) | go_size)))) ?_
  intro x2
  go_wp2
  go_returns
  exact ⟨rfl, by (repeat' (first | (with_reducible exact Below.refl _ _) | (with_reducible assumption) | (with_reducible refine Below.alloc ?_ ?_ _) | (with_reducible refine Below.drew ?_) | (with_reducible refine below_drewN ?_ _) | (with_reducible refine Below.setCell ?_ ?_ _) | (with_reducible refine below_after ?_ ?_ _) | (with_reducible refine below_set ?_) | (with_reducible refine After.size_le _ ?_) | (with_reducible refine size_alloc_le ?_) | (with_reducible refine size_set_le ?_) | (with_reducible refine size_drewN_le ?_) | go_size))⟩
end
end Go.Proofs.Ytbjdojcenflliaa
