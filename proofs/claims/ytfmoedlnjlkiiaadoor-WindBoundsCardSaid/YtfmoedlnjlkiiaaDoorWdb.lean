/- Forecasts that are valid, in both programs. -/
import Derived.Test.YtfmoedlnjlkiiaaDoorWdw
namespace Go.Proofs.YtfmoedlnjlkiiaaDoor
open Go.RowKit
attribute [local go_sem] After.cell After.frozen After.lt After.le After.ne After.ne' After.set_eq After.size_set After.lt_add

/-- A cast that may lie in a forecast, behind one that ends at a minute. -/
def OkC (fr to lo hi last : Int) : Prop := last ≤ fr ∧ fr < to ∧ to ≤ 100000 ∧ 0 ≤ lo ∧ lo ≤ hi ∧ hi ≤ 200
instance (fr to lo hi last : Int) : Decidable (OkC fr to lo hi last) := by unfold OkC; infer_instance
/-- Where a slice's casts lie. -/
def CAt (W : World) (a : Option Addr) (m : Nat) (fr to lo hi : Nat → Int) : Prop := ∀ k, k < m → ∃ b off, a = some ⟨b, off, none⟩ ∧ b < W.heap.size ∧
  W.cell? ⟨b, off + k * 4, none⟩ = some (.int .i64 (fr k)) ∧ W.cell? ⟨b, off + k * 4 + 1, none⟩ = some (.int .i64 (to k)) ∧ W.cell? ⟨b, off + k * 4 + 2, none⟩ = some (.int .i64 (lo k)) ∧ W.cell? ⟨b, off + k * 4 + 3, none⟩ = some (.int .i64 (hi k))
theorem CAt.on {w W : World} {a : Option Addr} {m : Nat} {fr to lo hi : Nat → Int} (h : CAt w a m fr to lo hi) (hb : Below w.heap.size w W) : CAt W a m fr to lo hi := fun k hk => by
  obtain ⟨b, off, e, h1, h2, h3, h4, h5⟩ := h k hk
  exact ⟨b, off, e, Nat.lt_of_lt_of_le h1 hb.size, (hb.cell (p := ⟨b, off + k * 4, none⟩) h1).trans h2, (hb.cell (p := ⟨b, off + k * 4 + 1, none⟩) h1).trans h3, (hb.cell (p := ⟨b, off + k * 4 + 2, none⟩) h1).trans h4, (hb.cell (p := ⟨b, off + k * 4 + 3, none⟩) h1).trans h5⟩
def laC (to : Nat → Int) : Nat → Int
  | 0 => 0
  | k + 1 => to k
def CsOk (m : Nat) (fr to lo hi : Nat → Int) : Prop := ∀ k, k < m → OkC (fr k) (to k) (lo k) (hi k) (laC to k)
instance (m : Nat) (fr to lo hi : Nat → Int) : Decidable (CsOk m fr to lo hi) := by unfold CsOk; infer_instance
theorem csOk_la {m : Nat} {fr to lo hi : Nat → Int} (h : CsOk m fr to lo hi) : ∀ k, k ≤ m → 0 ≤ laC to k ∧ laC to k ≤ 100000
  | 0, _ => by simp [laC]
  | k + 1, hk => by
    have h1 := h k (by omega)
    have h2 := csOk_la h k (by omega)
    unfold OkC at h1
    show 0 ≤ to k ∧ to k ≤ 100000
    omega
def GoodCs (m : Nat) (fr to lo hi : Nat → Int) : Prop := CsOk m fr to lo hi ∧ m ≤ 200
instance (m : Nat) (fr to lo hi : Nat → Int) : Decidable (GoodCs m fr to lo hi) := by unfold GoodCs; infer_instance
set_option maxRecDepth 100000 in
set_option maxHeartbeats 2000000 in
theorem validCast_any (fr to lo hi last : Int) (w : World) :
    Calls Tryd.prog 70 #[.agg #[.int .i64 fr, .int .i64 to, .int .i64 lo, .int .i64 hi], .int .i64 last] w fun e w' => e = .returned (.bool (decide (OkC fr to lo hi last))) ∧ Below w.heap.size w w' := by
  have e : decide (OkC fr to lo hi last) = (decide (last ≤ fr) && decide (fr < to) && decide (to ≤ 100000) && decide (0 ≤ lo) && decide (lo ≤ hi) && decide (hi ≤ 200)) := by
    rw [Bool.eq_iff_iff, decide_eq_true_iff]
    simp [OkC, and_assoc]
  rw [e]
  clear e
  cases h1 : decide (last ≤ fr)
  · skip
    go_enter Tryd.func70, Tryd.ntmps70
    go_wp2
    go_ret
    exact ⟨rfl, by (repeat' (first | (with_reducible exact Below.refl _ _) | (with_reducible assumption) | (with_reducible refine Below.alloc ?_ ?_ _) | (with_reducible refine Below.drew ?_) | (with_reducible refine below_drewN ?_ _) | (with_reducible refine Below.setCell ?_ ?_ _) | (with_reducible refine below_after ?_ ?_ _) | (with_reducible refine below_set ?_) | (with_reducible refine After.size_le _ ?_) | (with_reducible refine size_alloc_le ?_) | (with_reducible refine size_set_le ?_) | (with_reducible refine size_drewN_le ?_) | go_size))⟩
  cases h2 : decide (fr < to)
  · skip
    go_enter Tryd.func70, Tryd.ntmps70
    go_wp2
    go_ret
    exact ⟨rfl, by (repeat' (first | (with_reducible exact Below.refl _ _) | (with_reducible assumption) | (with_reducible refine Below.alloc ?_ ?_ _) | (with_reducible refine Below.drew ?_) | (with_reducible refine below_drewN ?_ _) | (with_reducible refine Below.setCell ?_ ?_ _) | (with_reducible refine below_after ?_ ?_ _) | (with_reducible refine below_set ?_) | (with_reducible refine After.size_le _ ?_) | (with_reducible refine size_alloc_le ?_) | (with_reducible refine size_set_le ?_) | (with_reducible refine size_drewN_le ?_) | go_size))⟩
  cases h3 : decide (to ≤ 100000)
  · skip
    go_enter Tryd.func70, Tryd.ntmps70
    go_wp2
    go_ret
    exact ⟨rfl, by (repeat' (first | (with_reducible exact Below.refl _ _) | (with_reducible assumption) | (with_reducible refine Below.alloc ?_ ?_ _) | (with_reducible refine Below.drew ?_) | (with_reducible refine below_drewN ?_ _) | (with_reducible refine Below.setCell ?_ ?_ _) | (with_reducible refine below_after ?_ ?_ _) | (with_reducible refine below_set ?_) | (with_reducible refine After.size_le _ ?_) | (with_reducible refine size_alloc_le ?_) | (with_reducible refine size_set_le ?_) | (with_reducible refine size_drewN_le ?_) | go_size))⟩
  cases h4 : decide (0 ≤ lo)
  · skip
    go_enter Tryd.func70, Tryd.ntmps70
    go_wp2
    go_ret
    exact ⟨rfl, by (repeat' (first | (with_reducible exact Below.refl _ _) | (with_reducible assumption) | (with_reducible refine Below.alloc ?_ ?_ _) | (with_reducible refine Below.drew ?_) | (with_reducible refine below_drewN ?_ _) | (with_reducible refine Below.setCell ?_ ?_ _) | (with_reducible refine below_after ?_ ?_ _) | (with_reducible refine below_set ?_) | (with_reducible refine After.size_le _ ?_) | (with_reducible refine size_alloc_le ?_) | (with_reducible refine size_set_le ?_) | (with_reducible refine size_drewN_le ?_) | go_size))⟩
  cases h5 : decide (lo ≤ hi)
  · skip
    go_enter Tryd.func70, Tryd.ntmps70
    go_wp2
    go_ret
    exact ⟨rfl, by (repeat' (first | (with_reducible exact Below.refl _ _) | (with_reducible assumption) | (with_reducible refine Below.alloc ?_ ?_ _) | (with_reducible refine Below.drew ?_) | (with_reducible refine below_drewN ?_ _) | (with_reducible refine Below.setCell ?_ ?_ _) | (with_reducible refine below_after ?_ ?_ _) | (with_reducible refine below_set ?_) | (with_reducible refine After.size_le _ ?_) | (with_reducible refine size_alloc_le ?_) | (with_reducible refine size_set_le ?_) | (with_reducible refine size_drewN_le ?_) | go_size))⟩
  cases h6 : decide (hi ≤ 200)
  · skip
    go_enter Tryd.func70, Tryd.ntmps70
    go_wp2
    go_ret
    exact ⟨rfl, by (repeat' (first | (with_reducible exact Below.refl _ _) | (with_reducible assumption) | (with_reducible refine Below.alloc ?_ ?_ _) | (with_reducible refine Below.drew ?_) | (with_reducible refine below_drewN ?_ _) | (with_reducible refine Below.setCell ?_ ?_ _) | (with_reducible refine below_after ?_ ?_ _) | (with_reducible refine below_set ?_) | (with_reducible refine After.size_le _ ?_) | (with_reducible refine size_alloc_le ?_) | (with_reducible refine size_set_le ?_) | (with_reducible refine size_drewN_le ?_) | go_size))⟩
  · skip
    go_enter Tryd.func70, Tryd.ntmps70
    go_wp2
    go_ret
    exact ⟨rfl, by (repeat' (first | (with_reducible exact Below.refl _ _) | (with_reducible assumption) | (with_reducible refine Below.alloc ?_ ?_ _) | (with_reducible refine Below.drew ?_) | (with_reducible refine below_drewN ?_ _) | (with_reducible refine Below.setCell ?_ ?_ _) | (with_reducible refine below_after ?_ ?_ _) | (with_reducible refine below_set ?_) | (with_reducible refine After.size_le _ ?_) | (with_reducible refine size_alloc_le ?_) | (with_reducible refine size_set_le ?_) | (with_reducible refine size_drewN_le ?_) | go_size))⟩
set_option maxRecDepth 100000 in
set_option maxHeartbeats 2000000 in
theorem validCasts_any (a : Option Addr) (m cap : Nat) (fr to lo hi : Nat → Int) (w : World) (hA : CAt w a m fr to lo hi) (hm : m ≤ 9223372036854775807) :
    Calls Tryd.prog 40 #[.slice a m cap] w fun e w' => e = .returned (.bool (decide (GoodCs m fr to lo hi))) ∧ Below w.heap.size w w' := by
  have HA := Lib.hid hA
  have hmI : (m : Int) ≤ 9223372036854775807 := by omega
  have HV := Lib.hid (fun k (z : Bool) (hz : decide (OkC (fr k) (to k) (lo k) (hi k) (laC to k)) = z) W => hz ▸ validCast_any (fr k) (to k) (lo k) (hi k) (laC to k) W)
  obtain ⟨R, hR⟩ : ∃ R, decide (GoodCs m fr to lo hi) = R := ⟨_, rfl⟩
  rw [hR]
  have HR := Lib.hid hR
  clear hR hA
  go_enter Tryd.func40, Tryd.ntmps40
  go_wp2
  go_loopw [3, 5, 8] (fun v _ i wr => ∃ k : Nat, k ≤ m ∧ i = .int .i64 k ∧ v = .int .i64 (laC to k) ∧ CsOk k fr to lo hi ∧ ∃ x : After w, wr = x.w) (fun _ _ i _ => m - (intOf i).toNat)
  case atStart => exact ⟨0, by omega, rfl, rfl, fun j hj => (by omega), ⟨w, Below.refl _ _⟩, rfl⟩
  case round =>
    obtain ⟨k, hk, rfl, rfl, hok, x, rfl⟩ := hrel
    by_cases hlt : k < m
    · have hlti : (k : Int) < (m : Int) := by omega
      obtain ⟨b, off, rfl, hb, c0, c1, c2, c3⟩ := HA.out k hlt
      cases hz : decide (OkC (fr k) (to k) (lo k) (hi k) (laC to k))
      · have HVk := Lib.hid (HV.out k false hz)
        have hR0 : Hid (R = false) := Lib.hid (by rw [← HR.out]; exact decide_eq_false fun h => (of_decide_eq_false hz) (h.1 k hlt))
        clear hz
        generalize fr k = f0 at *
        generalize to k = f1 at *
        generalize lo k = f2 at *
        generalize hi k = f3 at *
        generalize laC to k = la at *
        go_wp2_with (go_at_call 70; refine (HVk.out _).mono ?_; rintro e w3 ⟨rfl, hb3⟩; obtain ⟨y, rfl⟩ : ∃ y : After w, w3 = y.w := ⟨⟨w3, Below.trans (x.out.alloc x.out.size _) (hb3.mono (by have := x.out.size; simp; omega))⟩, rfl⟩; clear hb3)
        go_ret
        exact ⟨by rw [hR0.out]; rfl, by (repeat' (first | (with_reducible exact Below.refl _ _) | (with_reducible assumption) | (with_reducible refine Below.alloc ?_ ?_ _) | (with_reducible refine Below.drew ?_) | (with_reducible refine below_drewN ?_ _) | (with_reducible refine Below.setCell ?_ ?_ _) | (with_reducible refine below_after ?_ ?_ _) | (with_reducible refine below_set ?_) | (with_reducible refine After.size_le _ ?_) | (with_reducible refine size_alloc_le ?_) | (with_reducible refine size_set_le ?_) | (with_reducible refine size_drewN_le ?_) | go_size))⟩
      · have HVk := Lib.hid (HV.out k true hz)
        have hok' : Hid (CsOk (k + 1) fr to lo hi) := Lib.hid (fun j hj => by
          rcases Nat.lt_or_ge j k with h | h
          · exact hok j h
          · obtain rfl : j = k := by omega
            exact of_decide_eq_true hz)
        have hla : Hid (laC to (k + 1) = to k) := Lib.hid rfl
        clear hz hok
        have hsx := x.out.size
        generalize fr k = f0 at *
        generalize to k = f1 at *
        generalize lo k = f2 at *
        generalize hi k = f3 at *
        generalize laC to k = la at *
        go_wp2_with (go_at_call 70; refine (HVk.out _).mono ?_; rintro e w3 ⟨rfl, hb3⟩; have hk1 := (hb3.cell (p := ⟨x.w.heap.size, 1, none⟩) (by simp)).trans (b := _) (c := some (.int .i64 f1)) (by simp [go_sem]); obtain ⟨y, rfl⟩ : ∃ y : After w, w3 = y.w := ⟨⟨w3, Below.trans (x.out.alloc x.out.size _) (hb3.mono (by have := x.out.size; simp; omega))⟩, rfl⟩; clear hb3)
        go_roundw
        case rel => exact ⟨k + 1, by omega, by go_num, by rw [hla.out], hok'.out, _, rfl⟩
        case measure => simp [intOf]; omega
    · obtain rfl : k = m := by omega
      have hR1 : Hid (R = decide (k ≤ 200)) := Lib.hid (by rw [← HR.out]; exact decide_eq_decide.2 ⟨fun h => h.2, fun h => ⟨hok, h⟩⟩)
      go_wp2
      go_ret
      exact ⟨by rw [hR1.out]; exact ret_dec (by simp; omega), by (repeat' (first | (with_reducible exact Below.refl _ _) | (with_reducible assumption) | (with_reducible refine Below.alloc ?_ ?_ _) | (with_reducible refine Below.drew ?_) | (with_reducible refine below_drewN ?_ _) | (with_reducible refine Below.setCell ?_ ?_ _) | (with_reducible refine below_after ?_ ?_ _) | (with_reducible refine below_set ?_) | (with_reducible refine After.size_le _ ?_) | (with_reducible refine size_alloc_le ?_) | (with_reducible refine size_set_le ?_) | (with_reducible refine size_drewN_le ?_) | go_size))⟩
set_option maxRecDepth 100000 in
set_option maxHeartbeats 8000000 in
theorem rvalidCasts_any (a : Option Addr) (m cap : Nat) (fr to lo hi : Nat → Int) (w : World) (hA : CAt w a m fr to lo hi) (hm : m ≤ 9223372036854775807) :
    Calls Tryd.prog 41 #[.slice a m cap] w fun e w' => e = .returned (.bool (decide (GoodCs m fr to lo hi))) ∧ Below w.heap.size w w' := by
  have HA := Lib.hid hA
  have hmI : (m : Int) ≤ 9223372036854775807 := by omega
  obtain ⟨R, hR⟩ : ∃ R, decide (GoodCs m fr to lo hi) = R := ⟨_, rfl⟩
  rw [hR]
  have HR := Lib.hid hR
  clear hR hA
  go_enter Tryd.func41, Tryd.ntmps41
  go_wp2
  go_loopw [3, 4] (fun i _ wr => ∃ k : Nat, k ≤ m ∧ i = .int .i64 k ∧ CsOk k fr to lo hi ∧ ∃ x : After w, wr = x.w) (fun i _ _ => m - (intOf i).toNat)
  case atStart => exact ⟨0, by omega, rfl, fun j hj => (by omega), ⟨w, Below.refl _ _⟩, rfl⟩
  case round =>
    obtain ⟨k, hk, rfl, hok, x, rfl⟩ := hrel
    by_cases hlt : k < m
    · have hlti : (k : Int) < (m : Int) := by omega
      obtain ⟨b, off, rfl, hb, c0, c1, c2, c3⟩ := HA.out k hlt
      have hla0 := csOk_la hok k (Nat.le_refl _)
      cases h1 : decide (fr k < 0)
      case true =>
        have hR0 : Hid (R = false) := Lib.hid (by
          rw [← HR.out]
          exact decide_eq_false fun h => by
            have h1 := h.1 k hlt
            have h2 := csOk_la h.1 k hk
            unfold OkC at h1
            simp only [decide_eq_true_eq, decide_eq_false_iff_not] at *
            omega)
        clear hok hla0
        go_wp2_with fail
        refine wp_region_after (by kernel_rfl) (by kernel_rfl) ?_; (repeat (first | go_big_quiet_step ((fail)) | (refine wpQuiet_step (fun K hK => ?_); go_simp; first | (refine hK _ ?_; clear hK K) | (apply Exists.intro; refine ⟨fun x => ?_, hK _ ?_⟩; (fail); clear hK K)))); refine wpQuiet_nil ?_
        intro y
        go_wp2
        go_ret
        exact ⟨by rw [hR0.out]; rfl, by (repeat' (first | (with_reducible exact Below.refl _ _) | (with_reducible assumption) | (with_reducible refine Below.alloc ?_ ?_ _) | (with_reducible refine Below.drew ?_) | (with_reducible refine below_drewN ?_ _) | (with_reducible refine Below.setCell ?_ ?_ _) | (with_reducible refine below_after ?_ ?_ _) | (with_reducible refine below_set ?_) | (with_reducible refine After.size_le _ ?_) | (with_reducible refine size_alloc_le ?_) | (with_reducible refine size_set_le ?_) | (with_reducible refine size_drewN_le ?_) | go_size))⟩
      cases h2 : decide (to k ≤ fr k)
      case true =>
        have hR0 : Hid (R = false) := Lib.hid (by
          rw [← HR.out]
          exact decide_eq_false fun h => by
            have h1 := h.1 k hlt
            have h2 := csOk_la h.1 k hk
            unfold OkC at h1
            simp only [decide_eq_true_eq, decide_eq_false_iff_not] at *
            omega)
        clear hok hla0
        go_wp2_with fail
        refine wp_region_after (by kernel_rfl) (by kernel_rfl) ?_; (repeat (first | go_big_quiet_step ((fail)) | (refine wpQuiet_step (fun K hK => ?_); go_simp; first | (refine hK _ ?_; clear hK K) | (apply Exists.intro; refine ⟨fun x => ?_, hK _ ?_⟩; (fail); clear hK K)))); refine wpQuiet_nil ?_
        intro y
        go_wp2
        go_ret
        exact ⟨by rw [hR0.out]; rfl, by (repeat' (first | (with_reducible exact Below.refl _ _) | (with_reducible assumption) | (with_reducible refine Below.alloc ?_ ?_ _) | (with_reducible refine Below.drew ?_) | (with_reducible refine below_drewN ?_ _) | (with_reducible refine Below.setCell ?_ ?_ _) | (with_reducible refine below_after ?_ ?_ _) | (with_reducible refine below_set ?_) | (with_reducible refine After.size_le _ ?_) | (with_reducible refine size_alloc_le ?_) | (with_reducible refine size_set_le ?_) | (with_reducible refine size_drewN_le ?_) | go_size))⟩
      cases h3 : decide (100000 < to k)
      case true =>
        have hR0 : Hid (R = false) := Lib.hid (by
          rw [← HR.out]
          exact decide_eq_false fun h => by
            have h1 := h.1 k hlt
            have h2 := csOk_la h.1 k hk
            unfold OkC at h1
            simp only [decide_eq_true_eq, decide_eq_false_iff_not] at *
            omega)
        clear hok hla0
        go_wp2_with fail
        refine wp_region_after (by kernel_rfl) (by kernel_rfl) ?_; (repeat (first | go_big_quiet_step ((fail)) | (refine wpQuiet_step (fun K hK => ?_); go_simp; first | (refine hK _ ?_; clear hK K) | (apply Exists.intro; refine ⟨fun x => ?_, hK _ ?_⟩; (fail); clear hK K)))); refine wpQuiet_nil ?_
        intro y
        go_wp2
        go_ret
        exact ⟨by rw [hR0.out]; rfl, by (repeat' (first | (with_reducible exact Below.refl _ _) | (with_reducible assumption) | (with_reducible refine Below.alloc ?_ ?_ _) | (with_reducible refine Below.drew ?_) | (with_reducible refine below_drewN ?_ _) | (with_reducible refine Below.setCell ?_ ?_ _) | (with_reducible refine below_after ?_ ?_ _) | (with_reducible refine below_set ?_) | (with_reducible refine After.size_le _ ?_) | (with_reducible refine size_alloc_le ?_) | (with_reducible refine size_set_le ?_) | (with_reducible refine size_drewN_le ?_) | go_size))⟩
      cases h4 : decide (lo k < 0)
      case true =>
        have hR0 : Hid (R = false) := Lib.hid (by
          rw [← HR.out]
          exact decide_eq_false fun h => by
            have h1 := h.1 k hlt
            have h2 := csOk_la h.1 k hk
            unfold OkC at h1
            simp only [decide_eq_true_eq, decide_eq_false_iff_not] at *
            omega)
        clear hok hla0
        go_wp2_with fail
        refine wp_region_after (by kernel_rfl) (by kernel_rfl) ?_; (repeat (first | go_big_quiet_step ((fail)) | (refine wpQuiet_step (fun K hK => ?_); go_simp; first | (refine hK _ ?_; clear hK K) | (apply Exists.intro; refine ⟨fun x => ?_, hK _ ?_⟩; (fail); clear hK K)))); refine wpQuiet_nil ?_
        intro y
        go_wp2
        go_ret
        exact ⟨by rw [hR0.out]; rfl, by (repeat' (first | (with_reducible exact Below.refl _ _) | (with_reducible assumption) | (with_reducible refine Below.alloc ?_ ?_ _) | (with_reducible refine Below.drew ?_) | (with_reducible refine below_drewN ?_ _) | (with_reducible refine Below.setCell ?_ ?_ _) | (with_reducible refine below_after ?_ ?_ _) | (with_reducible refine below_set ?_) | (with_reducible refine After.size_le _ ?_) | (with_reducible refine size_alloc_le ?_) | (with_reducible refine size_set_le ?_) | (with_reducible refine size_drewN_le ?_) | go_size))⟩
      cases h5 : decide (hi k < lo k)
      case true =>
        have hR0 : Hid (R = false) := Lib.hid (by
          rw [← HR.out]
          exact decide_eq_false fun h => by
            have h1 := h.1 k hlt
            have h2 := csOk_la h.1 k hk
            unfold OkC at h1
            simp only [decide_eq_true_eq, decide_eq_false_iff_not] at *
            omega)
        clear hok hla0
        go_wp2_with fail
        refine wp_region_after (by kernel_rfl) (by kernel_rfl) ?_; (repeat (first | go_big_quiet_step ((fail)) | (refine wpQuiet_step (fun K hK => ?_); go_simp; first | (refine hK _ ?_; clear hK K) | (apply Exists.intro; refine ⟨fun x => ?_, hK _ ?_⟩; (fail); clear hK K)))); refine wpQuiet_nil ?_
        intro y
        go_wp2
        go_ret
        exact ⟨by rw [hR0.out]; rfl, by (repeat' (first | (with_reducible exact Below.refl _ _) | (with_reducible assumption) | (with_reducible refine Below.alloc ?_ ?_ _) | (with_reducible refine Below.drew ?_) | (with_reducible refine below_drewN ?_ _) | (with_reducible refine Below.setCell ?_ ?_ _) | (with_reducible refine below_after ?_ ?_ _) | (with_reducible refine below_set ?_) | (with_reducible refine After.size_le _ ?_) | (with_reducible refine size_alloc_le ?_) | (with_reducible refine size_set_le ?_) | (with_reducible refine size_drewN_le ?_) | go_size))⟩
      cases h6 : decide (200 < hi k)
      case true =>
        have hR0 : Hid (R = false) := Lib.hid (by
          rw [← HR.out]
          exact decide_eq_false fun h => by
            have h1 := h.1 k hlt
            have h2 := csOk_la h.1 k hk
            unfold OkC at h1
            simp only [decide_eq_true_eq, decide_eq_false_iff_not] at *
            omega)
        clear hok hla0
        go_wp2_with fail
        refine wp_region_after (by kernel_rfl) (by kernel_rfl) ?_; (repeat (first | go_big_quiet_step ((fail)) | (refine wpQuiet_step (fun K hK => ?_); go_simp; first | (refine hK _ ?_; clear hK K) | (apply Exists.intro; refine ⟨fun x => ?_, hK _ ?_⟩; (fail); clear hK K)))); refine wpQuiet_nil ?_
        intro y
        go_wp2
        go_ret
        exact ⟨by rw [hR0.out]; rfl, by (repeat' (first | (with_reducible exact Below.refl _ _) | (with_reducible assumption) | (with_reducible refine Below.alloc ?_ ?_ _) | (with_reducible refine Below.drew ?_) | (with_reducible refine below_drewN ?_ _) | (with_reducible refine Below.setCell ?_ ?_ _) | (with_reducible refine below_after ?_ ?_ _) | (with_reducible refine below_set ?_) | (with_reducible refine After.size_le _ ?_) | (with_reducible refine size_alloc_le ?_) | (with_reducible refine size_set_le ?_) | (with_reducible refine size_drewN_le ?_) | go_size))⟩
      rcases Nat.eq_zero_or_pos k with rfl | hpos
      · have hok' : Hid (CsOk (0 + 1) fr to lo hi) := Lib.hid (fun i hi => by
          obtain rfl : i = 0 := by omega
          show OkC _ _ _ _ 0
          unfold OkC
          simp only [decide_eq_true_eq, decide_eq_false_iff_not] at *
          omega)
        clear hok hla0
        simp only [Nat.zero_mul, Nat.add_zero] at c0 c1 c2 c3
        go_wp2_with fail
        refine wp_region_after (by kernel_rfl) (by kernel_rfl) ?_; (repeat (first | go_big_quiet_step ((fail)) | (refine wpQuiet_step (fun K hK => ?_); go_simp; first | (refine hK _ ?_; clear hK K) | (apply Exists.intro; refine ⟨fun x => ?_, hK _ ?_⟩; (fail); clear hK K)))); refine wpQuiet_nil ?_
        intro y
        go_wp2
        go_roundw
        case rel => exact ⟨_, by omega, by go_num, hok'.out, ⟨_, Below.trans (x.out.alloc x.out.size _) (y.out.mono (by have := x.out.size; simp; omega))⟩, rfl⟩
        case measure => simp [intOf]; omega
      · obtain ⟨j, hj⟩ : ∃ j, k = j + 1 := ⟨k - 1, by omega⟩
        have hla1 : laC to k = to j := by rw [hj]; rfl
        have hp : decide ((0 : Int) < (k : Int)) = true := decide_eq_true (by omega)
        have hp' : decide (0 < k) = true := decide_eq_true hpos
        have hsub : (k : Int) - 1 = (j : Int) := by omega
        have hlti3 : (j : Int) < (m : Int) := by omega
        obtain ⟨b', off', e', hb', d0, d1, d2, d3⟩ := HA.out j (by omega)
        cases e'
        have hbx : b < x.w.heap.size := Nat.lt_of_lt_of_le hb x.out.size
        have hbx1 : b < x.w.heap.size + 1 := by omega
        have hbne : b ≠ x.w.heap.size := by omega
        have d1x := (x.out.cell (p := ⟨b, off + j * 4 + 1, none⟩) hb).trans d1
        have d1y : (x.w.alloc (.cells #[.int .i64 (fr k), .int .i64 (to k), .int .i64 (lo k), .int .i64 (hi k)] 95)).cell? ⟨b, off + j * 4 + 1, none⟩ = some (.int .i64 (to j)) := (((Below.refl x.w.heap.size x.w).alloc (Nat.le_refl _) _).cell (p := ⟨b, off + j * 4 + 1, none⟩) hbx).trans d1x
        rw [hla1] at hla0
        cases h7 : decide (fr k < to j)
        case true =>
          have hR0 : Hid (R = false) := Lib.hid (by
            rw [← HR.out]
            exact decide_eq_false fun h => by
              have h1 := h.1 k hlt
              rw [hla1] at h1
              unfold OkC at h1
              simp only [decide_eq_true_eq, decide_eq_false_iff_not] at *
              omega)
          clear hok hla0 hla1 hj
          go_wp2_with fail
          refine wp_region_after (by kernel_rfl) (by kernel_rfl) ?_; (repeat (first | go_big_quiet_step ((fail)) | (refine wpQuiet_step (fun K hK => ?_); go_simp; first | (refine hK _ ?_; clear hK K) | (apply Exists.intro; refine ⟨fun x => ?_, hK _ ?_⟩; (fail); clear hK K)))); refine wpQuiet_nil ?_
          intro y
          go_wp2
          go_ret
          exact ⟨by rw [hR0.out]; rfl, by (repeat' (first | (with_reducible exact Below.refl _ _) | (with_reducible assumption) | (with_reducible refine Below.alloc ?_ ?_ _) | (with_reducible refine Below.drew ?_) | (with_reducible refine below_drewN ?_ _) | (with_reducible refine Below.setCell ?_ ?_ _) | (with_reducible refine below_after ?_ ?_ _) | (with_reducible refine below_set ?_) | (with_reducible refine After.size_le _ ?_) | (with_reducible refine size_alloc_le ?_) | (with_reducible refine size_set_le ?_) | (with_reducible refine size_drewN_le ?_) | go_size))⟩
        have hok' : Hid (CsOk (k + 1) fr to lo hi) := Lib.hid (fun i hi => by
          rcases Nat.lt_or_ge i k with h | h
          · exact hok i h
          · obtain rfl : i = k := by omega
            rw [hla1]
            unfold OkC
            simp only [decide_eq_true_eq, decide_eq_false_iff_not] at *
            omega)
        clear hok hla0 hla1 hj
        go_wp2_with fail
        refine wp_region_after (by kernel_rfl) (by kernel_rfl) ?_; (repeat (first | go_big_quiet_step ((fail)) | (refine wpQuiet_step (fun K hK => ?_); go_simp; first | (refine hK _ ?_; clear hK K) | (apply Exists.intro; refine ⟨fun x => ?_, hK _ ?_⟩; (fail); clear hK K)))); refine wpQuiet_nil ?_
        intro y
        go_wp2
        go_roundw
        case rel => exact ⟨_, by omega, by go_num, hok'.out, ⟨_, Below.trans (x.out.alloc x.out.size _) (y.out.mono (by have := x.out.size; simp; omega))⟩, rfl⟩
        case measure => simp [intOf]; omega
    · obtain rfl : k = m := by omega
      have hR1 : Hid (R = decide (k ≤ 200)) := Lib.hid (by rw [← HR.out]; exact decide_eq_decide.2 ⟨fun h => h.2, fun h => ⟨hok, h⟩⟩)
      go_wp2
      go_ret
      exact ⟨by rw [hR1.out]; exact ret_dec (by simp; omega), by (repeat' (first | (with_reducible exact Below.refl _ _) | (with_reducible assumption) | (with_reducible refine Below.alloc ?_ ?_ _) | (with_reducible refine Below.drew ?_) | (with_reducible refine below_drewN ?_ _) | (with_reducible refine Below.setCell ?_ ?_ _) | (with_reducible refine below_after ?_ ?_ _) | (with_reducible refine below_set ?_) | (with_reducible refine After.size_le _ ?_) | (with_reducible refine size_alloc_le ?_) | (with_reducible refine size_set_le ?_) | (with_reducible refine size_drewN_le ?_) | go_size))⟩
end Go.Proofs.YtfmoedlnjlkiiaaDoor
