/- The cast of a minute, in the reference. -/
import Derived.Test.YtfmoedlnjlkiiaaDoorWdb
namespace Go.Proofs.YtfmoedlnjlkiiaaDoor
open Go.RowKit
attribute [local go_sem] After.cell After.frozen After.lt After.le After.ne After.ne' After.set_eq After.size_set After.lt_add

def CIn (fr to : Nat → Int) (m : Int) (k : Nat) : Prop := fr k ≤ m ∧ m < to k
instance (fr to : Nat → Int) (m : Int) (k : Nat) : Decidable (CIn fr to m k) := by unfold CIn; infer_instance
set_option maxRecDepth 100000 in
set_option maxHeartbeats 2000000 in
theorem castAt_in (a : Option Addr) (n cap : Nat) (fr to lo hi : Nat → Int) (m : Int) (w : World) (hA : CAt w a n fr to lo hi) (hn : n ≤ 9223372036854775807) (k : Nat) (hk : k < n) (h1 : CIn fr to m k) (h2 : ∀ j, j < k → ¬ CIn fr to m j) :
    Calls Tryd.prog 73 #[.slice a n cap, .int .i64 m] w fun e w' => e = .returned (.tuple #[.agg #[.int .i64 (fr k), .int .i64 (to k), .int .i64 (lo k), .int .i64 (hi k)], .bool true]) ∧ Below w.heap.size w w' := by
  have HA := Lib.hid hA
  have hnI : (n : Int) ≤ 9223372036854775807 := by omega
  obtain ⟨b, off, rfl, hb, c0, c1, c2, c3⟩ := HA.out k hk
  have hbn : b ≠ w.heap.size := by omega
  have H2 := Lib.hid h2
  obtain ⟨h3, h4⟩ := h1
  have h3d : decide (fr k ≤ m) = true := decide_eq_true h3
  have h4d : decide (m < to k) = true := decide_eq_true h4
  clear hA h2 h3 h4
  go_enter Tryd.func73, Tryd.ntmps73
  go_wp2
  go_loop [6] (fun i => ∃ j : Nat, j ≤ k ∧ i = .int .i64 j) (fun i => k - (intOf i).toNat)
  case atStart => exact ⟨0, by omega, rfl⟩
  case round =>
    obtain ⟨j, hj, rfl⟩ := hrel
    have hji : (j : Int) < (n : Int) := by omega
    by_cases hlt : j < k
    · obtain ⟨b', off', e', hb', d0, d1, _, _⟩ := HA.out j (by omega)
      cases e'
      have hno := H2.out j hlt
      unfold CIn at hno
      by_cases h5 : fr j ≤ m
      · have h5d : decide (fr j ≤ m) = true := decide_eq_true h5
        have h6d : decide (m < to j) = false := decide_eq_false (fun h => hno ⟨h5, h⟩)
        clear hno h5
        generalize fr j = f0 at *
        generalize to j = f1 at *
        go_wp2
        go_round
        case rel => exact ⟨j + 1, by omega, by go_num⟩
        case measure => simp [intOf]; omega
      · have h5d : decide (fr j ≤ m) = false := decide_eq_false h5
        clear hno h5
        generalize fr j = f0 at *
        generalize to j = f1 at *
        go_wp2
        go_round
        case rel => exact ⟨j + 1, by omega, by go_num⟩
        case measure => simp [intOf]; omega
    · obtain rfl : j = k := by omega
      go_wp2
      go_returns
      exact ⟨rfl, by (repeat' (first | (with_reducible exact Below.refl _ _) | (with_reducible assumption) | (with_reducible refine Below.alloc ?_ ?_ _) | (with_reducible refine Below.drew ?_) | (with_reducible refine below_drewN ?_ _) | (with_reducible refine Below.setCell ?_ ?_ _) | (with_reducible refine below_after ?_ ?_ _) | (with_reducible refine below_set ?_) | (with_reducible refine After.size_le _ ?_) | (with_reducible refine size_alloc_le ?_) | (with_reducible refine size_set_le ?_) | (with_reducible refine size_drewN_le ?_) | go_size))⟩
set_option maxRecDepth 100000 in
set_option maxHeartbeats 2000000 in
theorem castAt_out (a : Option Addr) (n cap : Nat) (fr to lo hi : Nat → Int) (m : Int) (w : World) (hA : CAt w a n fr to lo hi) (hn : n ≤ 9223372036854775807) (h2 : ∀ j, j < n → ¬ CIn fr to m j) :
    Calls Tryd.prog 73 #[.slice a n cap, .int .i64 m] w fun e w' => e = .returned (.tuple #[.agg #[.int .i64 0, .int .i64 0, .int .i64 0, .int .i64 0], .bool false]) ∧ Below w.heap.size w w' := by
  have HA := Lib.hid hA
  have hnI : (n : Int) ≤ 9223372036854775807 := by omega
  have H2 := Lib.hid h2
  clear hA h2
  go_enter Tryd.func73, Tryd.ntmps73
  go_wp2
  go_loop [6] (fun i => ∃ j : Nat, j ≤ n ∧ i = .int .i64 j) (fun i => n - (intOf i).toNat)
  case atStart => exact ⟨0, by omega, rfl⟩
  case round =>
    obtain ⟨j, hj, rfl⟩ := hrel
    by_cases hlt : j < n
    · have hji : (j : Int) < (n : Int) := by omega
      obtain ⟨b, off, rfl, hb, d0, d1, _, _⟩ := HA.out j hlt
      have hbn : b ≠ w.heap.size := by omega
      have hno := H2.out j hlt
      unfold CIn at hno
      by_cases h5 : fr j ≤ m
      · have h5d : decide (fr j ≤ m) = true := decide_eq_true h5
        have h6d : decide (m < to j) = false := decide_eq_false (fun h => hno ⟨h5, h⟩)
        clear hno h5
        generalize fr j = f0 at *
        generalize to j = f1 at *
        go_wp2
        go_round
        case rel => exact ⟨j + 1, by omega, by go_num⟩
        case measure => simp [intOf]; omega
      · have h5d : decide (fr j ≤ m) = false := decide_eq_false h5
        clear hno h5
        generalize fr j = f0 at *
        generalize to j = f1 at *
        go_wp2
        go_round
        case rel => exact ⟨j + 1, by omega, by go_num⟩
        case measure => simp [intOf]; omega
    · obtain rfl : j = n := by omega
      go_wp2
      go_returns
      exact ⟨rfl, by (repeat' (first | (with_reducible exact Below.refl _ _) | (with_reducible assumption) | (with_reducible refine Below.alloc ?_ ?_ _) | (with_reducible refine Below.drew ?_) | (with_reducible refine below_drewN ?_ _) | (with_reducible refine Below.setCell ?_ ?_ _) | (with_reducible refine below_after ?_ ?_ _) | (with_reducible refine below_set ?_) | (with_reducible refine After.size_le _ ?_) | (with_reducible refine size_alloc_le ?_) | (with_reducible refine size_set_le ?_) | (with_reducible refine size_drewN_le ?_) | go_size))⟩
end Go.Proofs.YtfmoedlnjlkiiaaDoor
