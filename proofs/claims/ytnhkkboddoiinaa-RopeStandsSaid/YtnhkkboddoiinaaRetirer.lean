/- The reference's Retires. -/
import Derived.Test.YtnhkkboddoiinaaRetire
namespace Go.Proofs.Ytnhkkboddoiinaa
open Go.RowKit
attribute [local go_sem] After.cell After.frozen After.lt After.le After.ne After.ne' After.set_eq After.size_set After.lt_add

theorem er0 (s d l : Int) (ps : List (Int × Int)) : erN s d l ps 0 0 = if GoodW s d l ps then 0 else 1 := by
  unfold erN
  split
  · rw [if_pos ⟨⟨by omega, by omega⟩, ⟨by omega, by omega⟩⟩]
  · rfl
theorem rtB_le {s d l : Int} {ps : List (Int × Int)} (hG : GoodW s d l ps) {i : Nat} (hi : i ≤ 100000) : rtN s d l ps ≤ i ↔ lft s d i ps < l := by
  obtain ⟨r1, r2, r3⟩ := rtN_spec hG
  constructor
  · intro h; have := r3 i h (by omega); unfold rtB at this; simpa using this
  · intro h
    rcases Nat.lt_or_ge i (rtN s d l ps) with h2 | h2
    · have := r2 i h2; unfold rtB at this; simp at this; omega
    · exact h2

set_option maxRecDepth 100000 in
set_option maxHeartbeats 1000000 in
theorem rretires_any (s d l : Int) (v : Value) (ps : List (Int × Int)) (w : World) (h : Prc w w.heap.size v ps) (hl : ps.length ≤ 1000) :
    Calls Try.prog 51 #[.agg #[.int .i64 s, .int .i64 d, .int .i64 l], v] w fun e w' => e = .returned (.tuple #[.int .i64 (rtV s d l ps), .int .i64 (rtE s d l ps)]) ∧ Below w.heap.size w w' := by
  obtain ⟨a, cap, hv⟩ := prc_slice h
  have HC : Hid (∀ W, Below w.heap.size w W → _) := fun W hW => ropeError_any s d l v ps 0 0 W (prc_on h hW) hl
  rw [er0] at HC
  by_cases hG : GoodW s d l ps
  · rw [if_pos hG] at HC
    have HL : Hid (∀ i : Nat, i ≤ 100000 → ∀ W, Below w.heap.size w W → Calls Try.prog 83 #[.agg #[.int .i64 s, .int .i64 d, .int .i64 l], v, .int .i64 i] W fun e w' => e = .returned (.int .i64 (lft s d i ps)) ∧ Below W.heap.size W w') := fun i hi W hW => rleft_any s d l i v ps W (prc_on h hW) hG ⟨by omega, by omega⟩
    have HB : Hid (∀ i : Nat, i ≤ 100000 → (rtN s d l ps ≤ i ↔ lft s d i ps < l)) := fun i hi => rtB_le hG hi
    have H5 := Lib.hid (HL.out 100000 (by omega))
    have B5 := Lib.hid (HB.out 100000 (by omega))
    by_cases hr : rtN s d l ps ≤ 100000
    · have e : rtV s d l ps = rtN s d l ps ∧ rtE s d l ps = 0 := by unfold rtV rtE; rw [if_pos ⟨hG, hr⟩, if_pos hG, if_pos hr]; exact ⟨rfl, rfl⟩
      rw [e.1, e.2]
      have h5 : decide (l ≤ lft s d ((100000 : Nat) : Int) ps) = false := decide_eq_false (by have := B5.out.1 hr; omega)
      generalize lft s d ((100000 : Nat) : Int) ps = q5 at *
      generalize rtN s d l ps = r at *
      clear h hG e B5
      subst hv
      generalize ps.length = n at *
      go_enter Try.func51, Try.ntmps51
      go_wp2_with fail
      refine calls_after (HC.out _ (by (repeat' (first | (with_reducible exact Below.refl _ _) | (with_reducible assumption) | (with_reducible refine Below.alloc ?_ ?_ _) | (with_reducible refine Below.drew ?_) | (with_reducible refine below_drewN ?_ _) | (with_reducible refine Below.setCell ?_ ?_ _) | (with_reducible refine below_after ?_ ?_ _) | (with_reducible refine below_set ?_) | (with_reducible refine After.size_le _ ?_) | (with_reducible refine size_alloc_le ?_) | (with_reducible refine size_set_le ?_) | (with_reducible refine size_drewN_le ?_) | go_size)))) ?_
      intro x1
      have hz_x1 := x1.out.size; (try simp only [World.size_alloc] at hz_x1); (try simp only [World.size_setCell] at hz_x1); (try simp only [World.size_alloc] at hz_x1); have k0_x1 : w.heap.size < x1.w.heap.size := (by omega); have j0_x1 : w.heap.size < x1.w.heap.size + 1 := (by omega)
      go_wp2_with fail
      refine wp_region_after (by kernel_rfl) (by kernel_rfl) ?_; (repeat (first | go_big_quiet_step ((go_at_call 83; exact quiet_after (H5.out _ (by (repeat' (first | (with_reducible exact Below.refl _ _) | (with_reducible assumption) | (with_reducible refine Below.alloc ?_ ?_ _) | (with_reducible refine Below.drew ?_) | (with_reducible refine below_drewN ?_ _) | (with_reducible refine Below.setCell ?_ ?_ _) | (with_reducible refine below_after ?_ ?_ _) | (with_reducible refine below_set ?_) | (with_reducible refine After.size_le _ ?_) | (with_reducible refine size_alloc_le ?_) | (with_reducible refine size_set_le ?_) | (with_reducible refine size_drewN_le ?_) | go_size)))))) | (refine wpQuiet_step (fun K hK => ?_); go_simp; first | (refine hK _ ?_; clear hK K) | (apply Exists.intro; refine ⟨fun x => ?_, hK _ ?_⟩; (go_at_call 83; exact quiet_after (H5.out _ (by (repeat' (first | (with_reducible exact Below.refl _ _) | (with_reducible assumption) | (with_reducible refine Below.alloc ?_ ?_ _) | (with_reducible refine Below.drew ?_) | (with_reducible refine below_drewN ?_ _) | (with_reducible refine Below.setCell ?_ ?_ _) | (with_reducible refine below_after ?_ ?_ _) | (with_reducible refine below_set ?_) | (with_reducible refine After.size_le _ ?_) | (with_reducible refine size_alloc_le ?_) | (with_reducible refine size_set_le ?_) | (with_reducible refine size_drewN_le ?_) | go_size))))); clear hK K)))); refine wpQuiet_nil ?_
      intro x2
      have hz_x2 := x2.out.size; (try simp only [World.size_alloc] at hz_x2); (try simp only [World.size_setCell] at hz_x2); (try simp only [World.size_alloc] at hz_x2); have k0_x2 : w.heap.size < x2.w.heap.size := (by omega); have j0_x2 : w.heap.size < x2.w.heap.size + 1 := (by omega)
      clear H5
      go_wp2_with fail
      go_loopw [7, 8, 9] (fun x y z wr => ∃ p q : Int, -1 ≤ p ∧ p < r ∧ (r : Int) ≤ q ∧ q ≤ 100000 ∧ x = .int .i64 p ∧ y = .int .i64 q ∧ ∃ u : After x2.w, wr = u.w) (fun x y _ _ => (intOf y - intOf x).toNat)
      case atStart => exact ⟨-1, 100000, by omega, by omega, by omega, by omega, rfl, rfl, ⟨x2.w, Below.refl _ _⟩, rfl⟩
      case round =>
        obtain ⟨p, q, hp1, hp2, hq1, hq2, rfl, rfl, u, rfl⟩ := hrel
        have hu := u.out.size
        have y1 : w.heap.size < u.w.heap.size := by omega
        by_cases hlt : 1 < q - p
        · obtain ⟨m, hm⟩ := Int.eq_ofNat_of_zero_le (show 0 ≤ (p + q) / 2 by omega)
          have hm1 : p < m := by omega
          have hm2 : (m : Int) < q := by omega
          have hpq : 0 ≤ p + q := by omega
          have Hm := Lib.hid hm
          have HLm := Lib.hid (HL.out m (by omega))
          have HBm := Lib.hid (HB.out m (by omega))
          clear hm
          have hd1 : decide (1 < q - p) = true := decide_eq_true hlt
          by_cases hc : lft s d m ps < l
          · have hcd : decide (lft s d m ps < l) = true := decide_eq_true hc
            have hrm := HBm.out.2 hc
            generalize lft s d m ps = qq at *
            clear HBm hc
            go_wp2_with fail
            rw [Hm.out]
            refine wp_region_after (by kernel_rfl) (by kernel_rfl) ?_; (repeat (first | go_big_quiet_step ((go_at_call 83; exact quiet_after (HLm.out _ (by (repeat' (first | (with_reducible exact Below.refl _ _) | (with_reducible assumption) | (with_reducible refine Below.alloc ?_ ?_ _) | (with_reducible refine Below.drew ?_) | (with_reducible refine below_drewN ?_ _) | (with_reducible refine Below.setCell ?_ ?_ _) | (with_reducible refine below_after ?_ ?_ _) | (with_reducible refine below_set ?_) | (with_reducible refine After.size_le _ ?_) | (with_reducible refine size_alloc_le ?_) | (with_reducible refine size_set_le ?_) | (with_reducible refine size_drewN_le ?_) | go_size)))))) | (refine wpQuiet_step (fun K hK => ?_); go_simp; first | (refine hK _ ?_; clear hK K) | (apply Exists.intro; refine ⟨fun x => ?_, hK _ ?_⟩; (go_at_call 83; exact quiet_after (HLm.out _ (by (repeat' (first | (with_reducible exact Below.refl _ _) | (with_reducible assumption) | (with_reducible refine Below.alloc ?_ ?_ _) | (with_reducible refine Below.drew ?_) | (with_reducible refine below_drewN ?_ _) | (with_reducible refine Below.setCell ?_ ?_ _) | (with_reducible refine below_after ?_ ?_ _) | (with_reducible refine below_set ?_) | (with_reducible refine After.size_le _ ?_) | (with_reducible refine size_alloc_le ?_) | (with_reducible refine size_set_le ?_) | (with_reducible refine size_drewN_le ?_) | go_size))))); clear hK K)))); refine wpQuiet_nil ?_
            intro y
            go_wp2
            go_roundw
            case rel => exact ⟨p, m, hp1, hp2, by omega, by omega, rfl, rfl, ⟨_, u.out.trans (y.out.mono u.out.size)⟩, rfl⟩
            case measure => simp [intOf]; omega
          · have hcd : decide (lft s d m ps < l) = false := decide_eq_false hc
            have hrm := mt HBm.out.1 hc
            generalize lft s d m ps = qq at *
            clear HBm hc
            go_wp2_with fail
            rw [Hm.out]
            refine wp_region_after (by kernel_rfl) (by kernel_rfl) ?_; (repeat (first | go_big_quiet_step ((go_at_call 83; exact quiet_after (HLm.out _ (by (repeat' (first | (with_reducible exact Below.refl _ _) | (with_reducible assumption) | (with_reducible refine Below.alloc ?_ ?_ _) | (with_reducible refine Below.drew ?_) | (with_reducible refine below_drewN ?_ _) | (with_reducible refine Below.setCell ?_ ?_ _) | (with_reducible refine below_after ?_ ?_ _) | (with_reducible refine below_set ?_) | (with_reducible refine After.size_le _ ?_) | (with_reducible refine size_alloc_le ?_) | (with_reducible refine size_set_le ?_) | (with_reducible refine size_drewN_le ?_) | go_size)))))) | (refine wpQuiet_step (fun K hK => ?_); go_simp; first | (refine hK _ ?_; clear hK K) | (apply Exists.intro; refine ⟨fun x => ?_, hK _ ?_⟩; (go_at_call 83; exact quiet_after (HLm.out _ (by (repeat' (first | (with_reducible exact Below.refl _ _) | (with_reducible assumption) | (with_reducible refine Below.alloc ?_ ?_ _) | (with_reducible refine Below.drew ?_) | (with_reducible refine below_drewN ?_ _) | (with_reducible refine Below.setCell ?_ ?_ _) | (with_reducible refine below_after ?_ ?_ _) | (with_reducible refine below_set ?_) | (with_reducible refine After.size_le _ ?_) | (with_reducible refine size_alloc_le ?_) | (with_reducible refine size_set_le ?_) | (with_reducible refine size_drewN_le ?_) | go_size))))); clear hK K)))); refine wpQuiet_nil ?_
            intro y
            go_wp2
            go_roundw
            case rel => exact ⟨m, q, by omega, by omega, hq1, hq2, rfl, rfl, ⟨_, u.out.trans (y.out.mono u.out.size)⟩, rfl⟩
            case measure => simp [intOf]; omega
        · have hd1 : decide (1 < q - p) = false := decide_eq_false hlt
          obtain rfl : q = r := by omega
          go_wp2
          go_returns
          exact ⟨rfl, by (repeat' (first | (with_reducible exact Below.refl _ _) | (with_reducible assumption) | (with_reducible refine Below.alloc ?_ ?_ _) | (with_reducible refine Below.drew ?_) | (with_reducible refine below_drewN ?_ _) | (with_reducible refine Below.setCell ?_ ?_ _) | (with_reducible refine below_after ?_ ?_ _) | (with_reducible refine below_set ?_) | (with_reducible refine After.size_le _ ?_) | (with_reducible refine size_alloc_le ?_) | (with_reducible refine size_set_le ?_) | (with_reducible refine size_drewN_le ?_) | go_size))⟩
    · have e : rtV s d l ps = 0 ∧ rtE s d l ps = 8 := by unfold rtV rtE; rw [if_neg (fun h => hr h.2), if_pos hG, if_neg hr]; exact ⟨rfl, rfl⟩
      rw [e.1, e.2]
      have h5 : decide (l ≤ lft s d ((100000 : Nat) : Int) ps) = true := decide_eq_true (by have := mt B5.out.2 hr; omega)
      generalize lft s d ((100000 : Nat) : Int) ps = q5 at *
      clear h hG e B5 HB HL hr
      subst hv
      generalize ps.length = n at *
      go_enter Try.func51, Try.ntmps51
      go_wp2_with fail
      refine calls_after (HC.out _ (by (repeat' (first | (with_reducible exact Below.refl _ _) | (with_reducible assumption) | (with_reducible refine Below.alloc ?_ ?_ _) | (with_reducible refine Below.drew ?_) | (with_reducible refine below_drewN ?_ _) | (with_reducible refine Below.setCell ?_ ?_ _) | (with_reducible refine below_after ?_ ?_ _) | (with_reducible refine below_set ?_) | (with_reducible refine After.size_le _ ?_) | (with_reducible refine size_alloc_le ?_) | (with_reducible refine size_set_le ?_) | (with_reducible refine size_drewN_le ?_) | go_size)))) ?_
      intro x1
      have hz_x1 := x1.out.size; (try simp only [World.size_alloc] at hz_x1); (try simp only [World.size_setCell] at hz_x1); (try simp only [World.size_alloc] at hz_x1); have k0_x1 : w.heap.size < x1.w.heap.size := (by omega); have j0_x1 : w.heap.size < x1.w.heap.size + 1 := (by omega)
      go_wp2_with fail
      refine wp_region_after (by kernel_rfl) (by kernel_rfl) ?_; (repeat (first | go_big_quiet_step ((go_at_call 83; exact quiet_after (H5.out _ (by (repeat' (first | (with_reducible exact Below.refl _ _) | (with_reducible assumption) | (with_reducible refine Below.alloc ?_ ?_ _) | (with_reducible refine Below.drew ?_) | (with_reducible refine below_drewN ?_ _) | (with_reducible refine Below.setCell ?_ ?_ _) | (with_reducible refine below_after ?_ ?_ _) | (with_reducible refine below_set ?_) | (with_reducible refine After.size_le _ ?_) | (with_reducible refine size_alloc_le ?_) | (with_reducible refine size_set_le ?_) | (with_reducible refine size_drewN_le ?_) | go_size)))))) | (refine wpQuiet_step (fun K hK => ?_); go_simp; first | (refine hK _ ?_; clear hK K) | (apply Exists.intro; refine ⟨fun x => ?_, hK _ ?_⟩; (go_at_call 83; exact quiet_after (H5.out _ (by (repeat' (first | (with_reducible exact Below.refl _ _) | (with_reducible assumption) | (with_reducible refine Below.alloc ?_ ?_ _) | (with_reducible refine Below.drew ?_) | (with_reducible refine below_drewN ?_ _) | (with_reducible refine Below.setCell ?_ ?_ _) | (with_reducible refine below_after ?_ ?_ _) | (with_reducible refine below_set ?_) | (with_reducible refine After.size_le _ ?_) | (with_reducible refine size_alloc_le ?_) | (with_reducible refine size_set_le ?_) | (with_reducible refine size_drewN_le ?_) | go_size))))); clear hK K)))); refine wpQuiet_nil ?_
      intro x2
      go_wp2
      go_returns
      exact ⟨rfl, by (repeat' (first | (with_reducible exact Below.refl _ _) | (with_reducible assumption) | (with_reducible refine Below.alloc ?_ ?_ _) | (with_reducible refine Below.drew ?_) | (with_reducible refine below_drewN ?_ _) | (with_reducible refine Below.setCell ?_ ?_ _) | (with_reducible refine below_after ?_ ?_ _) | (with_reducible refine below_set ?_) | (with_reducible refine After.size_le _ ?_) | (with_reducible refine size_alloc_le ?_) | (with_reducible refine size_set_le ?_) | (with_reducible refine size_drewN_le ?_) | go_size))⟩
  · rw [if_neg hG] at HC
    have e : rtV s d l ps = 0 ∧ rtE s d l ps = 1 := by unfold rtV rtE; rw [if_neg (fun h => hG h.1), if_neg hG]; exact ⟨rfl, rfl⟩
    rw [e.1, e.2]
    clear h hG e
    subst hv
    generalize ps.length = n at *
    go_enter Try.func51, Try.ntmps51
    go_wp2_with fail
    refine calls_after (HC.out _ (by (repeat' (first | (with_reducible exact Below.refl _ _) | (with_reducible assumption) | (with_reducible refine Below.alloc ?_ ?_ _) | (with_reducible refine Below.drew ?_) | (with_reducible refine below_drewN ?_ _) | (with_reducible refine Below.setCell ?_ ?_ _) | (with_reducible refine below_after ?_ ?_ _) | (with_reducible refine below_set ?_) | (with_reducible refine After.size_le _ ?_) | (with_reducible refine size_alloc_le ?_) | (with_reducible refine size_set_le ?_) | (with_reducible refine size_drewN_le ?_) | go_size)))) ?_
    intro x1
    go_wp2
    go_returns
    exact ⟨rfl, by (repeat' (first | (with_reducible exact Below.refl _ _) | (with_reducible assumption) | (with_reducible refine Below.alloc ?_ ?_ _) | (with_reducible refine Below.drew ?_) | (with_reducible refine below_drewN ?_ _) | (with_reducible refine Below.setCell ?_ ?_ _) | (with_reducible refine below_after ?_ ?_ _) | (with_reducible refine below_set ?_) | (with_reducible refine After.size_le _ ?_) | (with_reducible refine size_alloc_le ?_) | (with_reducible refine size_set_le ?_) | (with_reducible refine size_drewN_le ?_) | go_size))⟩
end Go.Proofs.Ytnhkkboddoiinaa
