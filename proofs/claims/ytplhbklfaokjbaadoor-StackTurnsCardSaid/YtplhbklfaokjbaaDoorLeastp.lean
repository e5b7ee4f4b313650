/- Least in both programs, by what Safe answers. -/
import Derived.Test.YtplhbklfaokjbaaDoorSafep
namespace Go.Proofs.YtplhbklfaokjbaaDoor
open Go.RowKit
attribute [local go_sem] After.cell After.frozen After.lt After.le After.ne After.ne' After.set_eq After.size_set After.lt_add

/-- The least of the first k pressures, and its first side. -/
def stL (g : Nat → Nat) : Nat → Nat × Nat
  | 0 => (10001, 0)
  | k + 1 => if g k < (stL g k).1 then (g k, k) else stL g k
theorem stL_bd {g : Nat → Nat} (hg : ∀ k, g k ≤ 10000) : ∀ k, (stL g k).1 ≤ 10001 ∧ (stL g k).2 ≤ k
  | 0 => ⟨Nat.le_refl _, Nat.le_refl _⟩
  | k + 1 => by
    obtain ⟨h1, h2⟩ := stL_bd hg k
    have := hg k
    unfold stL
    split
    · exact ⟨by dsimp only; omega, by dsimp only; omega⟩
    · exact ⟨h1, by omega⟩
theorem stL_one {g : Nat → Nat} (hg : ∀ k, g k ≤ 10000) : stL g 1 = (g 0, 0) := by
  have := hg 0
  unfold stL
  rw [if_pos (by unfold stL; dsimp only; omega)]
theorem stL_le {g : Nat → Nat} : ∀ {k m : Nat}, k < m → (stL g m).1 ≤ g k
  | k, m + 1, h => by
    unfold stL
    rcases Nat.lt_or_ge k m with h1 | h1
    · have := stL_le (g := g) h1
      split
      · dsimp only; omega
      · exact this
    · obtain rfl : k = m := by omega
      split
      · exact Nat.le_refl _
      · omega

set_option maxRecDepth 100000 in
set_option maxHeartbeats 1000000 in
theorem least_err (a : Option Addr) (n cap : Nat) (e : Int) (w : World) (he : (e == 0) = false) (hS : LSay w 38 #[.slice a n cap, .int .i64 0] (.tuple #[.int .i64 0, .int .i64 e])) :
    Calls Tryd.prog 40 #[.slice a n cap] w fun r w' => r = .returned (.tuple #[.int .i64 0, .int .i64 0, .int .i64 e]) ∧ Below w.heap.size w w' := by
  have HS : Hid (∀ W, Below w.heap.size w W → _) := hS
  clear hS
  go_enter Tryd.func40, Tryd.ntmps40
  go_wp2
  go_loopw [2, 3, 8] (fun p s i wr => p = .int .i64 10001 ∧ s = .int .i64 0 ∧ i = .int .i64 0 ∧ wr = w) (fun _ _ _ _ => 0)
  case atStart => exact ⟨rfl, rfl, rfl, rfl⟩
  case round =>
    obtain ⟨rfl, rfl, rfl, rfl⟩ := hrel
    go_wp2_with fail
    refine calls_after (HS.out _ (by (repeat' (first | (with_reducible exact Below.refl _ _) | (with_reducible assumption) | (with_reducible refine Below.alloc ?_ ?_ _) | (with_reducible refine Below.drew ?_) | (with_reducible refine below_drewN ?_ _) | (with_reducible refine Below.setCell ?_ ?_ _) | (with_reducible refine below_after ?_ ?_ _) | (with_reducible refine below_set ?_) | (with_reducible refine After.size_le _ ?_) | (with_reducible refine size_alloc_le ?_) | (with_reducible refine size_set_le ?_) | (with_reducible refine size_drewN_le ?_) | go_size)))) ?_
    intro x1
    go_wp2
    go_returns
    exact ⟨rfl, by (repeat' (first | (with_reducible exact Below.refl _ _) | (with_reducible assumption) | (with_reducible refine Below.alloc ?_ ?_ _) | (with_reducible refine Below.drew ?_) | (with_reducible refine below_drewN ?_ _) | (with_reducible refine Below.setCell ?_ ?_ _) | (with_reducible refine below_after ?_ ?_ _) | (with_reducible refine below_set ?_) | (with_reducible refine After.size_le _ ?_) | (with_reducible refine size_alloc_le ?_) | (with_reducible refine size_set_le ?_) | (with_reducible refine size_drewN_le ?_) | go_size))⟩
set_option maxRecDepth 100000 in
set_option maxHeartbeats 1000000 in
theorem least_ok (a : Option Addr) (n cap : Nat) (g : Nat → Nat) (w : World) (hg : ∀ k, g k ≤ 10000) (hS : ∀ k : Nat, k < 4 → LSay w 38 #[.slice a n cap, .int .i64 k] (.tuple #[.int .i64 (g k), .int .i64 0])) :
    Calls Tryd.prog 40 #[.slice a n cap] w fun r w' => r = .returned (.tuple #[.int .i64 (stL g 4).1, .int .i64 (stL g 4).2, .int .i64 0]) ∧ Below w.heap.size w w' := by
  have HS : Hid (∀ (k : Nat), k < 4 → ∀ W, Below w.heap.size w W → _) := hS
  have HG := Lib.hid hg
  clear hS hg
  go_enter Tryd.func40, Tryd.ntmps40
  go_wp2
  go_loopw [2, 3, 8] (fun p s i wr => ∃ k : Nat, k ≤ 4 ∧ p = .int .i64 (stL g k).1 ∧ s = .int .i64 (stL g k).2 ∧ i = .int .i64 k ∧ Below w.heap.size w wr) (fun _ _ i _ => 4 - (intOf i).toNat)
  case atStart => exact ⟨0, by omega, rfl, rfl, rfl, by (repeat' (first | (with_reducible exact Below.refl _ _) | (with_reducible assumption) | (with_reducible refine Below.alloc ?_ ?_ _) | (with_reducible refine Below.drew ?_) | (with_reducible refine below_drewN ?_ _) | (with_reducible refine Below.setCell ?_ ?_ _) | (with_reducible refine below_after ?_ ?_ _) | (with_reducible refine below_set ?_) | (with_reducible refine After.size_le _ ?_) | (with_reducible refine size_alloc_le ?_) | (with_reducible refine size_set_le ?_) | (with_reducible refine size_drewN_le ?_) | go_size))⟩
  case round =>
    obtain ⟨k, hk, rfl, rfl, rfl, hB⟩ := hrel
    by_cases hlt : k < 4
    · have HK := Lib.hid (HS.out k hlt wr hB)
      obtain ⟨q1, q2⟩ := stL_bd HG.out k
      have q3 := HG.out k
      have d0 : decide ((k : Int) < 4) = true := decide_eq_true (by omega)
      by_cases hm : g k < (stL g k).1
      · have e : Hid (stL g (k + 1) = (g k, k)) := if_pos hm
        generalize (stL g k).1 = u at *
        generalize (stL g k).2 = v at *
        generalize g k = t at *
        have d1 : decide ((t : Int) < (u : Int)) = true := decide_eq_true (by omega)
        go_wp2_with fail
        refine HK.out.mono ?_
        rintro r w1 ⟨rfl, hb⟩
        go_wp2
        go_roundw
        case rel => exact ⟨k + 1, by omega, by rw [e.out], by rw [e.out], by go_num, hB.trans (hb.mono hB.size)⟩
        case measure => simp [intOf]; omega
      · have e : Hid (stL g (k + 1) = stL g k) := if_neg hm
        have e1 : Hid ((stL g (k + 1)).1 = (stL g k).1) := by rw [e.out]; exact rfl
        have e2 : Hid ((stL g (k + 1)).2 = (stL g k).2) := by rw [e.out]; exact rfl
        clear e
        generalize (stL g k).1 = u at *
        generalize (stL g k).2 = v at *
        generalize g k = t at *
        have d1 : decide ((t : Int) < (u : Int)) = false := decide_eq_false (by omega)
        go_wp2_with fail
        refine HK.out.mono ?_
        rintro r w1 ⟨rfl, hb⟩
        go_wp2
        go_roundw
        case rel => exact ⟨k + 1, by omega, by rw [e1.out], by rw [e2.out], by go_num, hB.trans (hb.mono hB.size)⟩
        case measure => simp [intOf]; omega
    · obtain rfl : k = 4 := by omega
      generalize hu : stL g 4 = u at *
      go_wp2
      go_returns
      subst hu
      exact ⟨rfl, hB⟩

/-! ### The reference -/
theorem rLeast_bad (v : Value) (w : World) (hV : RCSay w v false) :
    Calls Tryd.prog 41 #[v] w fun r w' => r = .returned (.tuple #[.int .i64 0, .int .i64 0, .int .i64 1]) ∧ Below w.heap.size w w' := by
  have HV : Hid (∀ W, Below w.heap.size w W → _) := hV
  clear hV
  go_enter Tryd.func41, Tryd.ntmps41
  (go_wp2_with fail); refine calls_after (HV.out _ (by (repeat' (first | (with_reducible exact Below.refl _ _) | (with_reducible assumption) | (with_reducible refine Below.alloc ?_ ?_ _) | (with_reducible refine Below.drew ?_) | (with_reducible refine below_drewN ?_ _) | (with_reducible refine Below.setCell ?_ ?_ _) | (with_reducible refine below_after ?_ ?_ _) | (with_reducible refine below_set ?_) | (with_reducible refine After.size_le _ ?_) | (with_reducible refine size_alloc_le ?_) | (with_reducible refine size_set_le ?_) | (with_reducible refine size_drewN_le ?_) | go_size)))) ?_; intro x1
  go_wp2
  go_returns
  exact ⟨rfl, by (repeat' (first | (with_reducible exact Below.refl _ _) | (with_reducible assumption) | (with_reducible refine Below.alloc ?_ ?_ _) | (with_reducible refine Below.drew ?_) | (with_reducible refine below_drewN ?_ _) | (with_reducible refine Below.setCell ?_ ?_ _) | (with_reducible refine below_after ?_ ?_ _) | (with_reducible refine below_set ?_) | (with_reducible refine After.size_le _ ?_) | (with_reducible refine size_alloc_le ?_) | (with_reducible refine size_set_le ?_) | (with_reducible refine size_drewN_le ?_) | go_size))⟩
set_option maxRecDepth 100000 in
set_option maxHeartbeats 1000000 in
theorem rLeast_none (v : Value) (w : World) (hV : RCSay w v true) (hS : ∀ k : Nat, k < 4 → SSay w v k (-1)) :
    Calls Tryd.prog 41 #[v] w fun r w' => r = .returned (.tuple #[.int .i64 0, .int .i64 0, .int .i64 8]) ∧ Below w.heap.size w w' := by
  have HV : Hid (∀ W, Below w.heap.size w W → _) := hV
  have HS0 : Hid (∀ W, Below w.heap.size w W → _) := hS 0 (by omega)
  have HS : Hid (∀ (k : Nat), k < 4 → ∀ W, Below w.heap.size w W → _) := hS
  clear hV hS
  go_enter Tryd.func41, Tryd.ntmps41
  (go_wp2_with fail); refine calls_after (HV.out _ (by (repeat' (first | (with_reducible exact Below.refl _ _) | (with_reducible assumption) | (with_reducible refine Below.alloc ?_ ?_ _) | (with_reducible refine Below.drew ?_) | (with_reducible refine below_drewN ?_ _) | (with_reducible refine Below.setCell ?_ ?_ _) | (with_reducible refine below_after ?_ ?_ _) | (with_reducible refine below_set ?_) | (with_reducible refine After.size_le _ ?_) | (with_reducible refine size_alloc_le ?_) | (with_reducible refine size_set_le ?_) | (with_reducible refine size_drewN_le ?_) | go_size)))) ?_; intro x1
  (go_wp2_with fail); refine calls_after2 (HS0.out _ (by (repeat' (first | (with_reducible exact Below.refl _ _) | (with_reducible assumption) | (with_reducible refine Below.alloc ?_ ?_ _) | (with_reducible refine Below.drew ?_) | (with_reducible refine below_drewN ?_ _) | (with_reducible refine Below.setCell ?_ ?_ _) | (with_reducible refine below_after ?_ ?_ _) | (with_reducible refine below_set ?_) | (with_reducible refine After.size_le _ ?_) | (with_reducible refine size_alloc_le ?_) | (with_reducible refine size_set_le ?_) | (with_reducible refine size_drewN_le ?_) | go_size)))) ?_; intro x2
  have hB2 : Below w.heap.size w x2.w := x2.out
  go_wp2
  go_loopw [5, 6, 7] (fun p s i wr => ∃ k : Nat, k ≤ 4 ∧ p = .int .i64 (-1) ∧ s = .int .i64 0 ∧ i = .int .i64 k ∧ Below w.heap.size w wr) (fun _ _ i _ => 4 - (intOf i).toNat)
  case atStart => exact ⟨1, by omega, rfl, rfl, rfl, hB2⟩
  case round =>
    obtain ⟨k, hk, rfl, rfl, rfl, hB⟩ := hrel
    by_cases hlt : k < 4
    · have HK := Lib.hid (HS.out k hlt wr hB)
      go_wp2_with fail
      refine HK.out.mono ?_
      rintro r w1 ⟨rfl, hb⟩
      go_wp2
      go_roundw
      case rel => exact ⟨k + 1, by omega, rfl, rfl, by go_num, hB.trans (hb.mono hB.size)⟩
      case measure => simp [intOf]; omega
    · obtain rfl : k = 4 := by omega
      go_wp2
      go_returns
      exact ⟨rfl, hB⟩
set_option maxRecDepth 100000 in
set_option maxHeartbeats 1000000 in
theorem rLeast_ok (v : Value) (g : Nat → Nat) (w : World) (hg : ∀ k, g k ≤ 10000) (hV : RCSay w v true) (hS : ∀ k : Nat, k < 4 → SSay w v k (g k)) :
    Calls Tryd.prog 41 #[v] w fun r w' => r = .returned (.tuple #[.int .i64 (stL g 4).1, .int .i64 (stL g 4).2, .int .i64 0]) ∧ Below w.heap.size w w' := by
  have HV : Hid (∀ W, Below w.heap.size w W → _) := hV
  have HS0 : Hid (∀ W, Below w.heap.size w W → _) := hS 0 (by omega)
  have HS : Hid (∀ (k : Nat), k < 4 → ∀ W, Below w.heap.size w W → _) := hS
  have HG := Lib.hid hg
  have H1 := Lib.hid (stL_one hg)
  clear hV hS hg
  go_enter Tryd.func41, Tryd.ntmps41
  (go_wp2_with fail); refine calls_after (HV.out _ (by (repeat' (first | (with_reducible exact Below.refl _ _) | (with_reducible assumption) | (with_reducible refine Below.alloc ?_ ?_ _) | (with_reducible refine Below.drew ?_) | (with_reducible refine below_drewN ?_ _) | (with_reducible refine Below.setCell ?_ ?_ _) | (with_reducible refine below_after ?_ ?_ _) | (with_reducible refine below_set ?_) | (with_reducible refine After.size_le _ ?_) | (with_reducible refine size_alloc_le ?_) | (with_reducible refine size_set_le ?_) | (with_reducible refine size_drewN_le ?_) | go_size)))) ?_; intro x1
  (go_wp2_with fail); refine calls_after2 (HS0.out _ (by (repeat' (first | (with_reducible exact Below.refl _ _) | (with_reducible assumption) | (with_reducible refine Below.alloc ?_ ?_ _) | (with_reducible refine Below.drew ?_) | (with_reducible refine below_drewN ?_ _) | (with_reducible refine Below.setCell ?_ ?_ _) | (with_reducible refine below_after ?_ ?_ _) | (with_reducible refine below_set ?_) | (with_reducible refine After.size_le _ ?_) | (with_reducible refine size_alloc_le ?_) | (with_reducible refine size_set_le ?_) | (with_reducible refine size_drewN_le ?_) | go_size)))) ?_; intro x2
  have hB2 : Below w.heap.size w x2.w := x2.out
  go_wp2
  go_loopw [5, 6, 7] (fun p s i wr => ∃ k : Nat, 1 ≤ k ∧ k ≤ 4 ∧ p = .int .i64 (stL g k).1 ∧ s = .int .i64 (stL g k).2 ∧ i = .int .i64 k ∧ Below w.heap.size w wr) (fun _ _ i _ => 4 - (intOf i).toNat)
  case atStart => exact ⟨1, by omega, by omega, by rw [H1.out], by rw [H1.out]; rfl, rfl, hB2⟩
  case round =>
    obtain ⟨k, hk1, hk, rfl, rfl, rfl, hB⟩ := hrel
    by_cases hlt : k < 4
    · have HK := Lib.hid (HS.out k hlt wr hB)
      obtain ⟨q1, q2⟩ := stL_bd HG.out k
      have q3 := HG.out k
      by_cases hm : g k < (stL g k).1
      · have e : Hid (stL g (k + 1) = (g k, k)) := if_pos hm
        generalize (stL g k).1 = u at *
        generalize (stL g k).2 = v at *
        generalize g k = t at *
        have d1 : decide ((t : Int) < (u : Int)) = true := decide_eq_true (by omega)
        go_wp2_with fail
        refine HK.out.mono ?_
        rintro r w1 ⟨rfl, hb⟩
        go_wp2
        go_roundw
        case rel => exact ⟨k + 1, by omega, by omega, by rw [e.out], by rw [e.out], by go_num, hB.trans (hb.mono hB.size)⟩
        case measure => simp [intOf]; omega
      · have e : Hid (stL g (k + 1) = stL g k) := if_neg hm
        have e1 : Hid ((stL g (k + 1)).1 = (stL g k).1) := by rw [e.out]; exact rfl
        have e2 : Hid ((stL g (k + 1)).2 = (stL g k).2) := by rw [e.out]; exact rfl
        clear e
        generalize (stL g k).1 = u at *
        generalize (stL g k).2 = v at *
        generalize g k = t at *
        have d1 : decide ((t : Int) < (u : Int)) = false := decide_eq_false (by omega)
        go_wp2_with fail
        refine HK.out.mono ?_
        rintro r w1 ⟨rfl, hb⟩
        go_wp2
        go_roundw
        case rel => exact ⟨k + 1, by omega, by omega, by rw [e1.out], by rw [e2.out], by go_num, hB.trans (hb.mono hB.size)⟩
        case measure => simp [intOf]; omega
    · obtain rfl : k = 4 := by omega
      generalize hu : stL g 4 = u at *
      have d1 : decide (((u.1 : Nat) : Int) < 0) = false := decide_eq_false (by omega)
      go_wp2
      go_returns
      subst hu
      exact ⟨rfl, hB⟩
end Go.Proofs.YtplhbklfaokjbaaDoor
