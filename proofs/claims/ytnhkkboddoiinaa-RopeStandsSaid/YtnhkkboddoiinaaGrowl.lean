/- slices.Grow of nil, slices.Concat of a few lists of loads. -/
import Derived.Test.YtnhkkboddoiinaaGrow
namespace Go.Proofs.Ytnhkkboddoiinaa
open Go.RowKit
attribute [local go_sem] After.cell After.frozen After.lt After.le After.ne After.ne' After.set_eq After.size_set After.lt_add

set_option maxRecDepth 100000 in
set_option maxHeartbeats 1000000 in
theorem growL_nil (n : Nat) (h0 : 0 < n) (hn : n ≤ 2000) (w : World) :
    Calls Try.prog 104 #[.slice none 0 0, .int .i64 n] w fun e w' => ∃ v, e = .returned v ∧ w'.ownsRow w.heap.size 52 2 v 0 [] ∧ Below w.heap.size w w' := by
  obtain ⟨i0, hi, hz0, hz1, hz2⟩ := info_parts loadInfo
  have hn0 : decide ((n : Int) < 0) = false := decide_eq_false (by omega)
  have hn1 : decide (0 < (n : Int)) = true := decide_eq_true (by omega)
  have hn2 : (1 : Int) ≤ (n : Int) := by omega
  go_enter Try.func104, Try.ntmps104
  go_wp2_with (at_builtin; refine Lib.wpList_append_run _ rfl _ _ _ _ rfl _ _ rfl rfl _ _ (Lib.run_append_nil_zeros w 40 3 _ 52 i0 (.agg #[.int .i64 0, .int .i64 0]) .i64 .i64 Try.underlying40 Try.underlying3 hi hz0 n h0 (by omega) (by omega) (by rw [hz2]; omega)) ?_)
  go_ret
  exact ⟨_, rfl, (World.ownsRow_made w.drew _ _ (Nat.le_refl _) (grownCap_le_maxLen _ _ _ _ (by unfold maxLen; omega)) (by
    have := grownCap_ge w n 0 52
    rw [Array.size_append, size_zeroCells, size_zeroCells]
    show n * 2 + (grownCap w n 0 52 - n) * 2 = grownCap w n 0 52 * 2
    omega)), by (repeat' (first | (with_reducible exact Below.refl _ _) | (with_reducible assumption) | (with_reducible refine Below.alloc ?_ ?_ _) | (with_reducible refine Below.drew ?_) | (with_reducible refine below_drewN ?_ _) | (with_reducible refine Below.setCell ?_ ?_ _) | (with_reducible refine below_after ?_ ?_ _) | (with_reducible refine below_set ?_) | (with_reducible refine After.size_le _ ?_) | (with_reducible refine size_alloc_le ?_) | (with_reducible refine size_set_le ?_) | (with_reducible refine size_drewN_le ?_) | go_size))⟩

set_option maxRecDepth 100000 in
set_option maxHeartbeats 2000000 in
theorem concatL_any (n : Nat) (V : Nat → Value) (L A : Nat → List (Int × Int)) (xb : Nat) (w : World) (hx : xb < w.heap.size) (hn : n ≤ 10) (hc : ∀ k, k < n → w.cell? ⟨xb, k, none⟩ = some (V k))
    (hV : ∀ k, k < n → Prc w w.heap.size (V k) (L k)) (hA0 : A 0 = []) (hA : ∀ k, k < n → A (k + 1) = A k ++ L k) (hlen : ∀ k, k ≤ n → (A k).length ≤ 1000) (h0 : 0 < (A n).length) :
    Calls Try.prog 100 #[.slice (some ⟨xb, 0, none⟩) n n] w fun e w' => ∃ v, e = .returned v ∧ w'.ownsRow w.heap.size 52 2 v (A n).length (pcv (A n)) ∧ Below w.heap.size w w' := by
  have HC := Lib.hid hc
  have HV := Lib.hid hV
  have HA := Lib.hid hA
  have HA0 := Lib.hid hA0
  have HL := Lib.hid hlen
  have HG : Hid (∀ W, _) := fun W => growL_nil (A n).length h0 (by have := hlen n (Nat.le_refl _); omega) W
  obtain ⟨i0, hi, hz0, hz1, hz2⟩ := info_parts loadInfo
  clear hc hV hA hA0 hlen
  go_enter Try.func100, Try.ntmps100
  go_wp2
  go_loop [3, 5, 11] (fun t _ i => ∃ k : Nat, k ≤ n ∧ i = .int .i64 k ∧ t = .int .i64 ((A k).length : Int)) (fun _ _ i => n - (intOf i).toNat)
  case atStart => exact ⟨0, by omega, rfl, by rw [HA0.out]; rfl⟩
  case round =>
    obtain ⟨k, hk, rfl, rfl⟩ := hrel
    by_cases hlt : k < n
    · obtain ⟨a, cap, e⟩ := prc_slice (HV.out k hlt)
      have c := HC.out k hlt
      rw [e] at c
      have q1 := HL.out k hk
      have q2 := HL.out (k + 1) hlt
      have q3 : (A (k + 1)).length = (A k).length + (L k).length := by rw [HA.out k hlt, List.length_append]
      have Q3 := Lib.hid q3
      rw [q3] at q2
      clear e q3
      generalize (A k).length = m at *
      generalize (L k).length = r at *
      have d1 : decide ((m : Int) + (r : Int) < 0) = false := decide_eq_false (by omega)
      go_wp2
      go_round
      case rel => exact ⟨k + 1, by omega, by go_num, by rw [Q3.out]; go_num⟩
      case measure => simp [intOf]; omega
    · obtain rfl : k = n := by omega
      have q1 := HL.out k hk
      generalize hm : (A k).length = m at HG h0 q1 ⊢
      go_wp2_with fail
      refine (HG.out _).mono ?_
      rintro e w1 ⟨v1, rfl, hr1, hb1⟩
      have HR1 := Lib.hid hr1
      obtain ⟨x1, rfl⟩ : ∃ x1 : After w, w1 = x1.w := ⟨⟨w1, hb1⟩, rfl⟩
      clear hr1 hb1 HG
      go_wp2_with fail
      go_loopw [6, 8, 27] (fun v u i wr => ∃ j : Nat, j ≤ k ∧ i = .int .i64 j ∧ ∃ x : After w, wr = x.w ∧ x.w.ownsRow w.heap.size 52 2 v (A j).length (pcv (A j))) (fun _ _ i _ => k - (intOf i).toNat)
      case atStart => exact ⟨0, by omega, rfl, x1, rfl, by rw [HA0.out]; exact HR1.out⟩
      case round =>
        obtain ⟨j, hj, rfl, x, rfl, hown⟩ := hrel
        have hsx := x.out.size
        by_cases hlt : j < k
        · have c := HC.out j hlt
          have HP := Lib.hid (prc_on (HV.out j hlt) x.out)
          have q2 := HL.out j hj
          have q3 : (L j).length ≤ 1000 := by
            have := HL.out (j + 1) hlt
            rw [HA.out j hlt, List.length_append] at this
            omega
          go_wp2_with (at_builtin; refine append_prc2 rfl _ _ _ rfl w.heap.size 52 i0 _ Try.underlying40 hi hz0 hz1 hz2 rfl (A j) q2 _ rfl hown _ rfl (L j) HP.out q3 hsx ?_; intro v' w1 hown' hgrow)
          go_roundw
          case rel => exact ⟨j + 1, by omega, by go_num, ⟨w1, x.out.grown hgrow hsx (fun j e => (hown.lt j e).1)⟩, rfl, by rw [HA.out j hlt]; exact hown'⟩
          case measure => simp [intOf]; omega
        · obtain rfl : j = k := by omega
          go_wp2
          go_ret
          exact ⟨_, rfl, hown, x.out⟩
end Go.Proofs.Ytnhkkboddoiinaa
