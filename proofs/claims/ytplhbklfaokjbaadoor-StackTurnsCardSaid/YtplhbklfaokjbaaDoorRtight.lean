/- tight and safe in the reference. -/
import Derived.Test.YtplhbklfaokjbaaDoorSafem
namespace Go.Proofs.YtplhbklfaokjbaaDoor
open Go.RowKit
attribute [local go_sem] After.cell After.frozen After.lt After.le After.ne After.ne' After.set_eq After.size_set After.lt_add

set_option maxRecDepth 100000 in
set_option maxHeartbeats 1000000 in
theorem rtight_any (a : Option Addr) (n cap : Nat) (f : Nat → Nat → Int) (p : Int) (s : Nat) (w : World) (hn : n ≤ 60)
    (hH : ∀ (k : Nat) W, k < n → Below w.heap.size w W → Calls Tryd.prog 67 #[.slice a n cap, .int .i64 (k : Nat), .int .i64 p, .int .i64 s] W fun e w' => e = .returned (.bool (clB (bI f n k) p s)) ∧ Below W.heap.size W w') :
    Calls Tryd.prog 91 #[.slice a n cap, .int .i64 p, .int .i64 s] w fun e w' => e = .returned (.bool (tiB f n p s)) ∧ Below w.heap.size w w' := by
  have HH := Lib.hid hH
  clear hH
  go_enter Tryd.func91, Tryd.ntmps91
  go_wp2
  go_loopw [7] (fun i wr => ∃ k : Nat, k ≤ n ∧ i = .int .i64 k ∧ (∀ j, j < k → clB (bI f n j) p s = true) ∧ Below w.heap.size w wr) (fun i _ => n - (intOf i).toNat)
  case atStart => exact ⟨0, by omega, rfl, fun j hj => absurd hj (by omega), by (repeat' (first | (with_reducible exact Below.refl _ _) | (with_reducible assumption) | (with_reducible refine Below.alloc ?_ ?_ _) | (with_reducible refine Below.drew ?_) | (with_reducible refine below_drewN ?_ _) | (with_reducible refine Below.setCell ?_ ?_ _) | (with_reducible refine below_after ?_ ?_ _) | (with_reducible refine below_set ?_) | (with_reducible refine After.size_le _ ?_) | (with_reducible refine size_alloc_le ?_) | (with_reducible refine size_set_le ?_) | (with_reducible refine size_drewN_le ?_) | go_size))⟩
  case round =>
    obtain ⟨k, hk, rfl, h3, h4⟩ := hrel
    have H3 := Lib.hid h3
    clear h3
    by_cases hlt : k < n
    · have HK := Lib.hid (HH.out k wr hlt h4)
      obtain ⟨z, hz⟩ : ∃ z, clB (bI f n k) p s = z := ⟨_, rfl⟩
      have HZ := Lib.hid hz
      rw [hz] at HK
      clear hz
      cases z
      · have E : Hid (tiB f n p s = false) := tiB_off hlt HZ.out
        go_wp2_with fail
        refine HK.out.mono ?_
        rintro e w1 ⟨rfl, hb⟩
        go_wp2
        go_ret
        exact ⟨ret_bool E.out.symm, h4.trans (hb.mono h4.size)⟩
      · go_wp2_with fail
        refine HK.out.mono ?_
        rintro e w1 ⟨rfl, hb⟩
        go_wp2
        go_roundw
        case rel => exact ⟨k + 1, by omega, by go_num, fun j hj => by
          rcases Nat.lt_or_ge j k with h | h
          · exact H3.out j h
          · rw [show j = k by omega]; exact HZ.out, h4.trans (hb.mono h4.size)⟩
        case measure => simp [intOf]; omega
    · obtain rfl : n = k := by omega
      have E : Hid (tiB f n p s = true) := tiB_iff.2 H3.out
      go_wp2
      go_ret
      exact ⟨ret_bool E.out.symm, by (repeat' (first | (with_reducible exact Below.refl _ _) | (with_reducible assumption) | (with_reducible refine Below.alloc ?_ ?_ _) | (with_reducible refine Below.drew ?_) | (with_reducible refine below_drewN ?_ _) | (with_reducible refine Below.setCell ?_ ?_ _) | (with_reducible refine below_after ?_ ?_ _) | (with_reducible refine below_set ?_) | (with_reducible refine After.size_le _ ?_) | (with_reducible refine size_alloc_le ?_) | (with_reducible refine size_set_le ?_) | (with_reducible refine size_drewN_le ?_) | go_size))⟩

/-- What tight answers of the pressures up to the greatest, in every later world. -/
def TSay (w : World) (v : Value) (s : Int) (B : Nat → Bool) : Prop := ∀ (p : Nat) W, p ≤ 10000 → Below w.heap.size w W → Calls Tryd.prog 91 #[v, .int .i64 p, .int .i64 s] W fun e w' => e = .returned (.bool (B p)) ∧ Below W.heap.size W w'
set_option maxRecDepth 100000 in
set_option maxHeartbeats 1000000 in
theorem rsafe_none (v : Value) (s : Int) (B : Nat → Bool) (w : World) (hT : TSay w v s B) (h0 : B 0 = false) :
    Calls Tryd.prog 77 #[v, .int .i64 s] w fun e w' => e = .returned (.int .i64 (-1)) ∧ Below w.heap.size w w' := by
  have HT : Hid (∀ W, Below w.heap.size w W → _) := fun W hW => hT 0 W (by omega) hW
  rw [h0] at HT
  clear hT h0
  go_enter Tryd.func77, Tryd.ntmps77
  go_wp2_with fail
  refine calls_after (HT.out _ (by (repeat' (first | (with_reducible exact Below.refl _ _) | (with_reducible assumption) | (with_reducible refine Below.alloc ?_ ?_ _) | (with_reducible refine Below.drew ?_) | (with_reducible refine below_drewN ?_ _) | (with_reducible refine Below.setCell ?_ ?_ _) | (with_reducible refine below_after ?_ ?_ _) | (with_reducible refine below_set ?_) | (with_reducible refine After.size_le _ ?_) | (with_reducible refine size_alloc_le ?_) | (with_reducible refine size_set_le ?_) | (with_reducible refine size_drewN_le ?_) | go_size)))) ?_
  intro x1
  go_wp2
  go_ret
  exact ⟨rfl, by (repeat' (first | (with_reducible exact Below.refl _ _) | (with_reducible assumption) | (with_reducible refine Below.alloc ?_ ?_ _) | (with_reducible refine Below.drew ?_) | (with_reducible refine below_drewN ?_ _) | (with_reducible refine Below.setCell ?_ ?_ _) | (with_reducible refine below_after ?_ ?_ _) | (with_reducible refine below_set ?_) | (with_reducible refine After.size_le _ ?_) | (with_reducible refine size_alloc_le ?_) | (with_reducible refine size_set_le ?_) | (with_reducible refine size_drewN_le ?_) | go_size))⟩
set_option maxRecDepth 100000 in
set_option maxHeartbeats 1000000 in
theorem rsafe_some (v : Value) (s : Int) (B : Nat → Bool) (r : Nat) (w : World) (hT : TSay w v s B) (h0 : B 0 = true) (hr : r ≤ 10000) (h1 : ∀ i, i ≤ r → B i = true) (h2 : ∀ i, r < i → i ≤ 10000 → B i = false) :
    Calls Tryd.prog 77 #[v, .int .i64 s] w fun e w' => e = .returned (.int .i64 r) ∧ Below w.heap.size w w' := by
  have HT0 : Hid (∀ W, Below w.heap.size w W → _) := fun W hW => hT 0 W (by omega) hW
  rw [h0] at HT0
  have HT : Hid (∀ (p : Nat) W, p ≤ 10000 → Below w.heap.size w W → _) := hT
  have H1 := Lib.hid h1
  have H2 := Lib.hid h2
  clear hT h0 h1 h2
  go_enter Tryd.func77, Tryd.ntmps77
  go_wp2_with fail
  refine calls_after (HT0.out _ (by (repeat' (first | (with_reducible exact Below.refl _ _) | (with_reducible assumption) | (with_reducible refine Below.alloc ?_ ?_ _) | (with_reducible refine Below.drew ?_) | (with_reducible refine below_drewN ?_ _) | (with_reducible refine Below.setCell ?_ ?_ _) | (with_reducible refine below_after ?_ ?_ _) | (with_reducible refine below_set ?_) | (with_reducible refine After.size_le _ ?_) | (with_reducible refine size_alloc_le ?_) | (with_reducible refine size_set_le ?_) | (with_reducible refine size_drewN_le ?_) | go_size)))) ?_
  intro x1
  go_wp2
  go_loopw [5, 6] (fun x y wr => ∃ a b : Nat, x = .int .i64 a ∧ y = .int .i64 b ∧ a ≤ r ∧ r < b ∧ b ≤ 10001 ∧ ∃ v : After w, wr = v.w) (fun x y _ => (intOf y).toNat - (intOf x).toNat)
  case atStart => exact ⟨0, 10001, rfl, rfl, by omega, by omega, by omega, x1, rfl⟩
  case round =>
    obtain ⟨a, b, rfl, rfl, ha, hb, hbn, v, rfl⟩ := hrel
    by_cases hlt : a + 1 < b
    · have HM := Lib.hid (fun W => HT.out ((a + b) / 2) W (by omega))
      have e2 : Hid (((a : Int) + (b : Int)) / 2 = (((a + b) / 2 : Nat) : Int)) := Lib.hid (by omega)
      have d1 : decide ((1 : Int) < (b : Int) - (a : Int)) = true := decide_eq_true (by omega)
      rcases Nat.lt_or_ge r ((a + b) / 2) with hm | hm
      · have HB := Lib.hid (H2.out _ hm (by omega))
        rw [HB.out] at HM
        clear HB
        go_wp2_with fail
        rw [e2.out]
        refine calls_after2 (HM.out _ v.out) ?_
        intro y
        go_wp2
        go_roundw
        case rel => exact ⟨a, (a + b) / 2, rfl, by first | go_num | rfl, ha, hm, by omega, y, rfl⟩
        case measure => simp [intOf]; omega
      · have HB := Lib.hid (H1.out _ hm)
        rw [HB.out] at HM
        clear HB
        go_wp2_with fail
        rw [e2.out]
        refine calls_after2 (HM.out _ v.out) ?_
        intro y
        go_wp2
        go_roundw
        case rel => exact ⟨(a + b) / 2, b, by first | go_num | rfl, rfl, hm, hb, hbn, y, rfl⟩
        case measure => simp [intOf]; omega
    · obtain rfl : a = r := by omega
      have d1 : decide ((1 : Int) < (b : Int) - (a : Int)) = false := decide_eq_false (by omega)
      go_wp2
      go_ret
      exact ⟨rfl, by (repeat' (first | (with_reducible exact Below.refl _ _) | (with_reducible assumption) | (with_reducible refine Below.alloc ?_ ?_ _) | (with_reducible refine Below.drew ?_) | (with_reducible refine below_drewN ?_ _) | (with_reducible refine Below.setCell ?_ ?_ _) | (with_reducible refine below_after ?_ ?_ _) | (with_reducible refine below_set ?_) | (with_reducible refine After.size_le _ ?_) | (with_reducible refine size_alloc_le ?_) | (with_reducible refine size_set_le ?_) | (with_reducible refine size_drewN_le ?_) | go_size))⟩
end Go.Proofs.YtplhbklfaokjbaaDoor
