/- Stage 2: a stack in memory; Valid. -/
import Derived.Test.YtplhbklfaokjbaaDoorCrt
namespace Go.Proofs.YtplhbklfaokjbaaDoor
open Go.RowKit
attribute [local go_sem] After.cell After.frozen After.lt After.le After.ne After.ne' After.set_eq After.size_set After.lt_add

/-- The n courses f (height, out, in, weight, east, north) lie from a block's cell off on. -/
def CrCells (W : World) (b off n : Nat) (f : Nat → Nat → Int) : Prop :=
  ∀ i, i < n → W.cell? ⟨b, off + i * 6, none⟩ = some (.int .i64 (f i 0)) ∧ W.cell? ⟨b, off + i * 6 + 1, none⟩ = some (.int .i64 (f i 1)) ∧ W.cell? ⟨b, off + i * 6 + 2, none⟩ = some (.int .i64 (f i 2)) ∧
    W.cell? ⟨b, off + i * 6 + 3, none⟩ = some (.int .i64 (f i 3)) ∧ W.cell? ⟨b, off + i * 6 + 4, none⟩ = some (.int .i64 (f i 4)) ∧ W.cell? ⟨b, off + i * 6 + 5, none⟩ = some (.int .i64 (f i 5))
theorem CrCells.on {w W : World} {b off n : Nat} {f : Nat → Nat → Int} (h : CrCells w b off n f) (hb : b < w.heap.size) (hW : Below w.heap.size w W) : CrCells W b off n f := fun i hi => by
  obtain ⟨h0, h1, h2, h3, h4, h5⟩ := h i hi
  exact ⟨(hW.cell (p := ⟨b, _, none⟩) hb).trans h0, (hW.cell (p := ⟨b, _, none⟩) hb).trans h1, (hW.cell (p := ⟨b, _, none⟩) hb).trans h2, (hW.cell (p := ⟨b, _, none⟩) hb).trans h3, (hW.cell (p := ⟨b, _, none⟩) hb).trans h4, (hW.cell (p := ⟨b, _, none⟩) hb).trans h5⟩
def OkC (f : Nat → Nat → Int) (k : Nat) : Prop := InCr (f k 0) (f k 1) (f k 2) (f k 3) (f k 4) (f k 5)
instance (f : Nat → Nat → Int) (k : Nat) : Decidable (OkC f k) := by unfold OkC; infer_instance
def GoodC (n : Nat) (f : Nat → Nat → Int) : Prop := 1 ≤ n ∧ n ≤ 60 ∧ ∀ k, k < n → OkC f k
instance (n : Nat) (f : Nat → Nat → Int) : Decidable (GoodC n f) := by unfold GoodC; infer_instance

set_option maxRecDepth 100000 in
set_option maxHeartbeats 1000000 in
theorem valid_any (b off cap n : Nat) (f : Nat → Nat → Int) (w : World) (hb : b < w.heap.size) (hlen : n ≤ 1000) (hc : CrCells w b off n f) :
    Calls Tryd.prog 17 #[.slice (some ⟨b, off, none⟩) n cap] w fun e w' => e = .returned (.bool (decide (GoodC n f))) ∧ Below w.heap.size w w' := by
  have HC := Lib.hid hc
  clear hc
  by_cases hn : 1 ≤ n ∧ n ≤ 60
  · obtain ⟨n1, n2⟩ := hn
    have HB := Lib.hid (fun w => between_any n 1 60 w)
    rw [decide_eq_true (by unfold Btw; omega)] at HB
    go_enter Tryd.func17, Tryd.ntmps17
    (go_wp2_with fail); refine calls_after (HB.out _) ?_; intro x0
    go_wp2
    go_loopw [2, 11] (fun _ i wr => ∃ k : Nat, k ≤ n ∧ i = .int .i64 k ∧ (∀ j, j < k → OkC f j) ∧ ∃ x : After w, wr = x.w) (fun _ i _ => n - (intOf i).toNat)
    case atStart => exact ⟨0, by omega, rfl, fun j hj => absurd hj (by omega), ⟨_, x0.out⟩, rfl⟩
    case round =>
      obtain ⟨k, hk, rfl, ho, x, rfl⟩ := hrel
      have hbx := x.size_lt hb
      have HO := Lib.hid ho
      clear ho
      by_cases hlt : k < n
      · obtain ⟨c0, c1, c2, c3, c4, c5⟩ := HC.out k hlt
        have HV := Lib.hid (fun W => validCourse_any (f k 0) (f k 1) (f k 2) (f k 3) (f k 4) (f k 5) W)
        by_cases hF : OkC f k
        · have HF := Lib.hid hF
          unfold OkC at hF
          rw [decide_eq_true hF] at HV
          clear hF
          (go_wp2_with fail); refine calls_after (HV.out _) ?_; intro y
          go_wp2
          go_roundw
          case rel => exact ⟨k + 1, by omega, by go_num, fun j hj => by
            rcases Nat.lt_or_ge j k with hj' | hj'
            · exact HO.out j hj'
            · obtain rfl : j = k := by omega
              exact HF.out, ⟨_, below_after (x.out.alloc x.out.size _) (by simp; exact Nat.le_succ_of_le x.out.size) y⟩, rfl⟩
          case measure => simp [intOf]; omega
        · have HF := Lib.hid hF
          unfold OkC at hF
          rw [decide_eq_false hF] at HV
          clear hF
          (go_wp2_with fail); refine calls_after (HV.out _) ?_; intro y
          go_wp2
          go_ret
          exact ⟨ret_dec (by simp; exact fun hG => HF.out (hG.2.2 k hlt)), by (repeat' (first | (with_reducible exact Below.refl _ _) | (with_reducible assumption) | (with_reducible refine Below.alloc ?_ ?_ _) | (with_reducible refine Below.drew ?_) | (with_reducible refine below_drewN ?_ _) | (with_reducible refine Below.setCell ?_ ?_ _) | (with_reducible refine below_after ?_ ?_ _) | (with_reducible refine below_set ?_) | (with_reducible refine After.size_le _ ?_) | (with_reducible refine size_alloc_le ?_) | (with_reducible refine size_set_le ?_) | (with_reducible refine size_drewN_le ?_) | go_size))⟩
      · obtain rfl : k = n := by omega
        go_wp2
        go_ret
        exact ⟨ret_dec ⟨fun _ => ⟨n1, n2, HO.out⟩, fun _ => by simp⟩, by (repeat' (first | (with_reducible exact Below.refl _ _) | (with_reducible assumption) | (with_reducible refine Below.alloc ?_ ?_ _) | (with_reducible refine Below.drew ?_) | (with_reducible refine below_drewN ?_ _) | (with_reducible refine Below.setCell ?_ ?_ _) | (with_reducible refine below_after ?_ ?_ _) | (with_reducible refine below_set ?_) | (with_reducible refine After.size_le _ ?_) | (with_reducible refine size_alloc_le ?_) | (with_reducible refine size_set_le ?_) | (with_reducible refine size_drewN_le ?_) | go_size))⟩
  · have hno : ¬ GoodC n f := fun h => hn ⟨h.1, h.2.1⟩
    have HB := Lib.hid (fun w => between_any n 1 60 w)
    rw [decide_eq_false (by unfold Btw; omega)] at HB
    rw [decide_eq_false hno]
    go_enter Tryd.func17, Tryd.ntmps17
    (go_wp2_with fail); refine calls_after (HB.out _) ?_; intro x0
    go_wp2
    go_ret
    exact ⟨rfl, by (repeat' (first | (with_reducible exact Below.refl _ _) | (with_reducible assumption) | (with_reducible refine Below.alloc ?_ ?_ _) | (with_reducible refine Below.drew ?_) | (with_reducible refine below_drewN ?_ _) | (with_reducible refine Below.setCell ?_ ?_ _) | (with_reducible refine below_after ?_ ?_ _) | (with_reducible refine below_set ?_) | (with_reducible refine After.size_le _ ?_) | (with_reducible refine size_alloc_le ?_) | (with_reducible refine size_set_le ?_) | (with_reducible refine size_drewN_le ?_) | go_size))⟩

set_option maxRecDepth 100000 in
set_option maxHeartbeats 1000000 in
theorem rvalid_any (b off cap n : Nat) (f : Nat → Nat → Int) (w : World) (hb : b < w.heap.size) (hlen : n ≤ 1000) (hc : CrCells w b off n f) :
    Calls Tryd.prog 18 #[.slice (some ⟨b, off, none⟩) n cap] w fun e w' => e = .returned (.bool (decide (GoodC n f))) ∧ Below w.heap.size w w' := by
  have HC := Lib.hid hc
  clear hc
  have HB := Lib.hid (fun w => within_any n 1 60 w)
  go_enter Tryd.func18, Tryd.ntmps18
  go_wp2
  go_loopw [3] (fun i wr => ∃ k : Nat, k ≤ n ∧ i = .int .i64 k ∧ (∀ j, j < k → OkC f j) ∧ ∃ x : After w, wr = x.w) (fun i _ => n - (intOf i).toNat)
  case atStart => exact ⟨0, by omega, rfl, fun j hj => absurd hj (by omega), ⟨w, by (repeat' (first | (with_reducible exact Below.refl _ _) | (with_reducible assumption) | (with_reducible refine Below.alloc ?_ ?_ _) | (with_reducible refine Below.drew ?_) | (with_reducible refine below_drewN ?_ _) | (with_reducible refine Below.setCell ?_ ?_ _) | (with_reducible refine below_after ?_ ?_ _) | (with_reducible refine below_set ?_) | (with_reducible refine After.size_le _ ?_) | (with_reducible refine size_alloc_le ?_) | (with_reducible refine size_set_le ?_) | (with_reducible refine size_drewN_le ?_) | go_size))⟩, rfl⟩
  case round =>
    obtain ⟨k, hk, rfl, ho, x, rfl⟩ := hrel
    have hbx := x.size_lt hb
    have HO := Lib.hid ho
    clear ho
    by_cases hlt : k < n
    · obtain ⟨c0, c1, c2, c3, c4, c5⟩ := HC.out k hlt
      have HV := Lib.hid (fun W => rvalidCourse_any (f k 0) (f k 1) (f k 2) (f k 3) (f k 4) (f k 5) W)
      by_cases hF : OkC f k
      · have HF := Lib.hid hF
        unfold OkC at hF
        rw [decide_eq_true hF] at HV
        clear hF
        (go_wp2_with fail); refine calls_after2 (HV.out _) ?_; intro y
        go_wp2
        go_roundw
        case rel => exact ⟨k + 1, by omega, by go_num, fun j hj => by
          rcases Nat.lt_or_ge j k with hj' | hj'
          · exact HO.out j hj'
          · obtain rfl : j = k := by omega
            exact HF.out, ⟨_, y.out⟩, rfl⟩
        case measure => simp [intOf]; omega
      · have HF := Lib.hid hF
        unfold OkC at hF
        rw [decide_eq_false hF] at HV
        clear hF
        (go_wp2_with fail); refine calls_after2 (HV.out _) ?_; intro y
        go_wp2
        go_ret
        exact ⟨ret_dec (by simp; exact fun hG => HF.out (hG.2.2 k hlt)), by (repeat' (first | (with_reducible exact Below.refl _ _) | (with_reducible assumption) | (with_reducible refine Below.alloc ?_ ?_ _) | (with_reducible refine Below.drew ?_) | (with_reducible refine below_drewN ?_ _) | (with_reducible refine Below.setCell ?_ ?_ _) | (with_reducible refine below_after ?_ ?_ _) | (with_reducible refine below_set ?_) | (with_reducible refine After.size_le _ ?_) | (with_reducible refine size_alloc_le ?_) | (with_reducible refine size_set_le ?_) | (with_reducible refine size_drewN_le ?_) | go_size))⟩
    · obtain rfl : k = n := by omega
      (go_wp2_with fail); refine calls_after2 (HB.out _) ?_; intro y
      go_wp2
      go_ret
      exact ⟨ret_dec (decide_eq_true_iff.trans ⟨fun h => ⟨by have := h.1; omega, by have := h.2; omega, HO.out⟩, fun h => ⟨by have := h.1; omega, by have := h.2.1; omega⟩⟩), by (repeat' (first | (with_reducible exact Below.refl _ _) | (with_reducible assumption) | (with_reducible refine Below.alloc ?_ ?_ _) | (with_reducible refine Below.drew ?_) | (with_reducible refine below_drewN ?_ _) | (with_reducible refine Below.setCell ?_ ?_ _) | (with_reducible refine below_after ?_ ?_ _) | (with_reducible refine below_set ?_) | (with_reducible refine After.size_le _ ?_) | (with_reducible refine size_alloc_le ?_) | (with_reducible refine size_set_le ?_) | (with_reducible refine size_drewN_le ?_) | go_size))⟩
end Go.Proofs.YtplhbklfaokjbaaDoor
