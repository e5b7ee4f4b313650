/- The least number of parts, in both programs. -/
import Derived.Test.YtnhkkboddoiinaaTackr
namespace Go.Proofs.Ytnhkkboddoiinaa
open Go.RowKit
attribute [local go_sem] After.cell After.frozen After.lt After.le After.ne After.ne' After.set_eq After.size_set After.lt_add

/-- So many parts will do. -/
def ptB (k n m : Int) (i : Nat) : Bool := decide (n * 10000000000 ≤ m * gT i k)
def InP (k n m : Int) : Prop := Btw k 1 100 ∧ Ld n ∧ Ld m
instance (k n m : Int) : Decidable (InP k n m) := by unfold InP; infer_instance
def fst6 (B : Nat → Bool) : Int := if B 1 then 1 else if B 2 then 2 else if B 3 then 3 else if B 4 then 4 else if B 5 then 5 else if B 6 then 6 else 0
theorem fst6_at {B : Nat → Bool} {m : Nat} (h1 : 1 ≤ m) (h2 : m ≤ 6) (hb : B m = true) (hl : ∀ j, 1 ≤ j → j < m → B j = false) : fst6 B = m := by
  unfold fst6
  rcases (show m = 1 ∨ m = 2 ∨ m = 3 ∨ m = 4 ∨ m = 5 ∨ m = 6 by omega) with rfl | rfl | rfl | rfl | rfl | rfl
  · simp [hb]
  · simp [hb, hl 1]
  · simp [hb, hl 1, hl 2]
  · simp [hb, hl 1, hl 2, hl 3]
  · simp [hb, hl 1, hl 2, hl 3, hl 4]
  · simp [hb, hl 1, hl 2, hl 3, hl 4, hl 5]
theorem fst6_no {B : Nat → Bool} (hl : ∀ j, 1 ≤ j → j < 7 → B j = false) : fst6 B = 0 := by
  unfold fst6
  simp [hl 1, hl 2, hl 3, hl 4, hl 5, hl 6]
def er6 (B : Nat → Bool) : Int := if fst6 B = 0 then 8 else 0
def ptN (k n m : Int) : Int := if InP k n m then fst6 (ptB k n m) else 0
def ptE (k n m : Int) : Int := if InP k n m then er6 (ptB k n m) else 7

theorem goodT_at {k : Int} {i : Nat} (hk : Btw k 1 100) (h1 : 1 ≤ i) (h2 : i ≤ 6) : GoodT i k := ⟨⟨by omega, by omega⟩, hk⟩

set_option maxRecDepth 100000 in
set_option maxHeartbeats 400000 in
theorem parts_any (k n m : Int) (w : World) :
    Calls Try.prog 26 #[.int .i64 k, .int .i64 n, .int .i64 m] w fun e w' => e = .returned (.tuple #[.int .i64 (ptN k n m), .int .i64 (ptE k n m)]) ∧ Below w.heap.size w w' := by
  by_cases hI : InP k n m
  · obtain ⟨hk, hn, hm⟩ := hI
    have e : ptN k n m = fst6 (ptB k n m) ∧ ptE k n m = er6 (ptB k n m) := by
      unfold ptN ptE; rw [if_pos ⟨hk, hn, hm⟩, if_pos ⟨hk, hn, hm⟩]; exact ⟨rfl, rfl⟩
    rw [e.1, e.2]
    have HK := Lib.hid (fun w => validKeep_any k true (by simp [hk]) w)
    have HL := Lib.hid (fun x (hx : Ld x) w => validLoad_any x true (by simp [hx]) w)
    have HN := Lib.hid hn
    have HM := Lib.hid hm
    have HP : Hid (∀ i : Nat, 1 ≤ i → i ≤ 6 → ∀ w, Calls Try.prog 68 #[.agg #[.int .i64 i, .int .i64 k], .int .i64 n] w fun e w' => e = .returned (.int .i64 (plN i k n)) ∧ Below w.heap.size w w') := fun i h1 h2 w => leastPull_any i k n w (goodT_at hk h1 h2) hn
    have HB : Hid (∀ i : Nat, 1 ≤ i → i ≤ 6 → (plN i k n ≤ m ↔ ptB k n m i = true)) := fun i h1 h2 => by
      rw [plN_le (goodT_at hk h1 h2)]; unfold ptB; simp
    have HF := Lib.hid (fun (i : Nat) (h1 : 1 ≤ i) (h2 : i ≤ 6) h3 h4 => fst6_at (B := ptB k n m) h1 h2 h3 h4)
    have H0 := Lib.hid (fun h => fst6_no (B := ptB k n m) h)
    generalize ptB k n m = B at *
    clear hk hn hm e
    go_enter Try.func26, Try.ntmps26
    go_wp2_with (first | (go_at_call 62; refine (HK.out _).mono ?_; rintro e w1 ⟨rfl, rfl⟩) | (go_at_call 64; refine (HL.out _ (by first | exact HN.out | exact HM.out) _).mono ?_; rintro e w1 ⟨rfl, rfl⟩))
    go_loopw [8] (fun i wr => ∃ a : Nat, 1 ≤ a ∧ a ≤ 7 ∧ i = .int .i64 a ∧ (∀ j, 1 ≤ j → j < a → B j = false) ∧ ∃ x : After w, wr = x.w) (fun i _ => 7 - (intOf i).toNat)
    case atStart => exact ⟨1, by omega, by omega, rfl, fun j h1 h2 => absurd h1 (by omega), ⟨w, Below.refl _ _⟩, rfl⟩
    case round =>
      obtain ⟨a, ha, ha', rfl, hl, x, rfl⟩ := hrel
      have HLs := Lib.hid hl
      clear hl
      by_cases hlt : a ≤ 6
      · have HPa := Lib.hid (HP.out a ha hlt)
        have HBa := Lib.hid (HB.out a ha hlt)
        by_cases hB : B a = true
        · have hq := HBa.out.2 hB
          generalize plN a k n = q at *
          have HBt := Lib.hid hB
          clear hB
          go_wp2_with fail
          refine calls_after2 (HPa.out _) ?_
          intro y
          have HE := Lib.hid (HF.out a ha hlt HBt.out HLs.out)
          go_wp2
          go_returns
          exact ⟨by unfold er6; rw [HE.out, if_neg (show ¬ (a : Int) = 0 by omega)]; rfl, by (repeat' (first | (with_reducible exact Below.refl _ _) | (with_reducible assumption) | (with_reducible refine Below.alloc ?_ ?_ _) | (with_reducible refine Below.drew ?_) | (with_reducible refine below_drewN ?_ _) | (with_reducible refine Below.setCell ?_ ?_ _) | (with_reducible refine below_after ?_ ?_ _) | (with_reducible refine below_set ?_) | (with_reducible refine After.size_le _ ?_) | (with_reducible refine size_alloc_le ?_) | (with_reducible refine size_set_le ?_) | (with_reducible refine size_drewN_le ?_) | go_size))⟩
        · have hq : ¬ plN a k n ≤ m := fun h => hB (HBa.out.1 h)
          have HBf : Hid (B a = false) := by show _ = _; simpa using hB
          clear hB HBa
          generalize plN a k n = q at *
          go_wp2_with fail
          refine calls_after2 (HPa.out _) ?_
          intro y
          go_wp2
          go_roundw
          case rel => exact ⟨a + 1, by omega, by omega, by go_num, fun j h1 h2 => by
            rcases Nat.lt_or_ge j a with h3 | h3
            · exact HLs.out j h1 h3
            · obtain rfl : j = a := by omega
              exact HBf.out, y, rfl⟩
          case measure => simp [intOf]; omega
      · have HE := Lib.hid (H0.out (fun j h1 h2 => HLs.out j h1 (by omega)))
        go_wp2
        go_returns
        exact ⟨by unfold er6; rw [HE.out, if_pos rfl]; rfl, by (repeat' (first | (with_reducible exact Below.refl _ _) | (with_reducible assumption) | (with_reducible refine Below.alloc ?_ ?_ _) | (with_reducible refine Below.drew ?_) | (with_reducible refine below_drewN ?_ _) | (with_reducible refine Below.setCell ?_ ?_ _) | (with_reducible refine below_after ?_ ?_ _) | (with_reducible refine below_set ?_) | (with_reducible refine After.size_le _ ?_) | (with_reducible refine size_alloc_le ?_) | (with_reducible refine size_set_le ?_) | (with_reducible refine size_drewN_le ?_) | go_size))⟩
  · have e : ptN k n m = 0 ∧ ptE k n m = 7 := by
      unfold ptN ptE; rw [if_neg hI, if_neg hI]; exact ⟨rfl, rfl⟩
    rw [e.1, e.2]
    clear e
    have HI : Hid (¬ (Btw k 1 100 ∧ Ld n ∧ Ld m)) := hI
    clear hI
    by_cases hk : Btw k 1 100
    · have HK := Lib.hid (fun w => validKeep_any k true (by simp [hk]) w)
      by_cases hn : Ld n
      · have HL := Lib.hid (fun w => validLoad_any n true (by simp [hn]) w)
        have HM := Lib.hid (fun w => validLoad_any m false (by have := HI.out; simp [hk, hn] at this; simp [this]) w)
        clear hk hn
        go_enter Try.func26, Try.ntmps26
        go_wp2_with (first | (go_at_call 62; refine (HK.out _).mono ?_; rintro e w1 ⟨rfl, rfl⟩) | (go_at_call 64; (first | (with_reducible refine (HL.out _).mono ?_) | (with_reducible refine (HM.out _).mono ?_)); rintro e w1 ⟨rfl, rfl⟩))
        go_returns
        exact ⟨rfl, by (repeat' (first | (with_reducible exact Below.refl _ _) | (with_reducible assumption) | (with_reducible refine Below.alloc ?_ ?_ _) | (with_reducible refine Below.drew ?_) | (with_reducible refine below_drewN ?_ _) | (with_reducible refine Below.setCell ?_ ?_ _) | (with_reducible refine below_after ?_ ?_ _) | (with_reducible refine below_set ?_) | (with_reducible refine After.size_le _ ?_) | (with_reducible refine size_alloc_le ?_) | (with_reducible refine size_set_le ?_) | (with_reducible refine size_drewN_le ?_) | go_size))⟩
      · have HL := Lib.hid (fun w => validLoad_any n false (by simp [hn]) w)
        clear hk hn
        go_enter Try.func26, Try.ntmps26
        go_wp2_with (first | (go_at_call 62; refine (HK.out _).mono ?_; rintro e w1 ⟨rfl, rfl⟩) | (go_at_call 64; (with_reducible refine (HL.out _).mono ?_); rintro e w1 ⟨rfl, rfl⟩))
        go_returns
        exact ⟨rfl, by (repeat' (first | (with_reducible exact Below.refl _ _) | (with_reducible assumption) | (with_reducible refine Below.alloc ?_ ?_ _) | (with_reducible refine Below.drew ?_) | (with_reducible refine below_drewN ?_ _) | (with_reducible refine Below.setCell ?_ ?_ _) | (with_reducible refine below_after ?_ ?_ _) | (with_reducible refine below_set ?_) | (with_reducible refine After.size_le _ ?_) | (with_reducible refine size_alloc_le ?_) | (with_reducible refine size_set_le ?_) | (with_reducible refine size_drewN_le ?_) | go_size))⟩
    · have HK := Lib.hid (fun w => validKeep_any k false (by simp [hk]) w)
      clear hk
      go_enter Try.func26, Try.ntmps26
      go_wp2_with (first | (go_at_call 62; refine (HK.out _).mono ?_; rintro e w1 ⟨rfl, rfl⟩))
      go_returns
      exact ⟨rfl, by (repeat' (first | (with_reducible exact Below.refl _ _) | (with_reducible assumption) | (with_reducible refine Below.alloc ?_ ?_ _) | (with_reducible refine Below.drew ?_) | (with_reducible refine below_drewN ?_ _) | (with_reducible refine Below.setCell ?_ ?_ _) | (with_reducible refine below_after ?_ ?_ _) | (with_reducible refine below_set ?_) | (with_reducible refine After.size_le _ ?_) | (with_reducible refine size_alloc_le ?_) | (with_reducible refine size_set_le ?_) | (with_reducible refine size_drewN_le ?_) | go_size))⟩

set_option maxRecDepth 100000 in
set_option maxHeartbeats 400000 in
theorem rparts_any (k n m : Int) (w : World) :
    Calls Try.prog 27 #[.int .i64 k, .int .i64 n, .int .i64 m] w fun e w' => e = .returned (.tuple #[.int .i64 (ptN k n m), .int .i64 (ptE k n m)]) ∧ Below w.heap.size w w' := by
  by_cases hI : InP k n m
  · obtain ⟨hk, hn, hm⟩ := hI
    have e : ptN k n m = fst6 (ptB k n m) ∧ ptE k n m = er6 (ptB k n m) := by
      unfold ptN ptE; rw [if_pos ⟨hk, hn, hm⟩, if_pos ⟨hk, hn, hm⟩]; exact ⟨rfl, rfl⟩
    rw [e.1, e.2]
    have HK := Lib.hid (fun w => within_t k 1 100 w hk)
    have HL := Lib.hid (fun x (hx : Ld x) w => rload_any x true (by simp [hx]) w)
    have HN := Lib.hid hn
    have HM := Lib.hid hm
    have HP : Hid (∀ i : Nat, 1 ≤ i → i ≤ 6 → ∀ w, Calls Try.prog 60 #[.agg #[.int .i64 i, .int .i64 k]] w fun e w' => e = .returned (.tuple #[.int .i64 (rnT i k), .int .i64 (rdT i)]) ∧ Below w.heap.size w w') := fun i h1 h2 w => rgainT_any i k w (goodT_at hk h1 h2)
    have HB : Hid (∀ i : Nat, 1 ≤ i → i ≤ 6 → (n * rdT i ≤ m * rnT i k ↔ ptB k n m i = true)) := fun i h1 h2 => by
      rw [rparts_eq (goodT_at hk h1 h2)]; unfold ptB; simp
    have HR : Hid (∀ i : Nat, 1 ≤ i → i ≤ 6 → 0 ≤ m * rnT i k ∧ m * rnT i k ≤ 60000000000000000 ∧ 0 ≤ n * rdT i ∧ n * rdT i ≤ 10000000000000000) := fun i h1 h2 => by
      obtain ⟨b1, b2, b3, b4⟩ := rnT_bd (goodT_at hk h1 h2)
      obtain ⟨n1, n2⟩ := hn
      obtain ⟨m1, m2⟩ := hm
      exact ⟨Int.mul_nonneg m1 (by omega), Int.le_trans (Int.mul_le_mul_of_nonneg_right m2 (by omega)) (by omega), Int.mul_nonneg n1 (by omega), Int.le_trans (Int.mul_le_mul_of_nonneg_right n2 (by omega)) (by omega)⟩
    have HF := Lib.hid (fun (i : Nat) (h1 : 1 ≤ i) (h2 : i ≤ 6) h3 h4 => fst6_at (B := ptB k n m) h1 h2 h3 h4)
    have H0 := Lib.hid (fun h => fst6_no (B := ptB k n m) h)
    generalize ptB k n m = B at *
    clear hk hn hm e
    go_enter Try.func27, Try.ntmps27
    go_wp2_with (first | (go_at_call 63; refine (HK.out _).mono ?_; rintro e w1 ⟨rfl, rfl⟩) | (go_at_call 67; refine (HL.out _ (by first | exact HN.out | exact HM.out) _).mono ?_; rintro e w1 ⟨rfl, rfl⟩))
    go_loopw [8, 9, 10] (fun i u v wr => ∃ a : Nat, 1 ≤ a ∧ a ≤ 7 ∧ i = .int .i64 a ∧ (∀ j, 1 ≤ j → j < a → B j = false) ∧ ∃ x : After w, wr = x.w) (fun i _ _ _ => 7 - (intOf i).toNat)
    case atStart => exact ⟨1, by omega, by omega, rfl, fun j h1 h2 => absurd h1 (by omega), ⟨w, Below.refl _ _⟩, rfl⟩
    case round =>
      obtain ⟨a, ha, ha', rfl, hl, x, rfl⟩ := hrel
      have HLs := Lib.hid hl
      clear hl
      by_cases hlt : a ≤ 6
      · have HPa := Lib.hid (HP.out a ha hlt)
        have HBa := Lib.hid (HB.out a ha hlt)
        obtain ⟨r1, r2, r3, r4⟩ := HR.out a ha hlt
        by_cases hB : B a = true
        · have hq := HBa.out.2 hB
          have HBt := Lib.hid hB
          have HE := Lib.hid (HF.out a ha hlt HBt.out HLs.out)
          clear hB HBa
          generalize rnT a k = q at *
          generalize rdT a = d at *
          go_wp2_with fail
          refine calls_after2 (HPa.out _) ?_
          intro y
          go_wp2
          go_returns
          exact ⟨by unfold er6; rw [HE.out, if_neg (show ¬ (a : Int) = 0 by omega)]; rfl, by (repeat' (first | (with_reducible exact Below.refl _ _) | (with_reducible assumption) | (with_reducible refine Below.alloc ?_ ?_ _) | (with_reducible refine Below.drew ?_) | (with_reducible refine below_drewN ?_ _) | (with_reducible refine Below.setCell ?_ ?_ _) | (with_reducible refine below_after ?_ ?_ _) | (with_reducible refine below_set ?_) | (with_reducible refine After.size_le _ ?_) | (with_reducible refine size_alloc_le ?_) | (with_reducible refine size_set_le ?_) | (with_reducible refine size_drewN_le ?_) | go_size))⟩
        · have hq : ¬ n * rdT a ≤ m * rnT a k := fun h => hB (HBa.out.1 h)
          have HBf : Hid (B a = false) := by show _ = _; simpa using hB
          clear hB HBa
          generalize rnT a k = q at *
          generalize rdT a = d at *
          go_wp2_with fail
          refine calls_after2 (HPa.out _) ?_
          intro y
          go_wp2
          go_roundw
          case rel => exact ⟨a + 1, by omega, by omega, by go_num, fun j h1 h2 => by
            rcases Nat.lt_or_ge j a with h3 | h3
            · exact HLs.out j h1 h3
            · obtain rfl : j = a := by omega
              exact HBf.out, y, rfl⟩
          case measure => simp [intOf]; omega
      · have HE := Lib.hid (H0.out (fun j h1 h2 => HLs.out j h1 (by omega)))
        go_wp2
        go_returns
        exact ⟨by unfold er6; rw [HE.out, if_pos rfl]; rfl, by (repeat' (first | (with_reducible exact Below.refl _ _) | (with_reducible assumption) | (with_reducible refine Below.alloc ?_ ?_ _) | (with_reducible refine Below.drew ?_) | (with_reducible refine below_drewN ?_ _) | (with_reducible refine Below.setCell ?_ ?_ _) | (with_reducible refine below_after ?_ ?_ _) | (with_reducible refine below_set ?_) | (with_reducible refine After.size_le _ ?_) | (with_reducible refine size_alloc_le ?_) | (with_reducible refine size_set_le ?_) | (with_reducible refine size_drewN_le ?_) | go_size))⟩
  · have e : ptN k n m = 0 ∧ ptE k n m = 7 := by
      unfold ptN ptE; rw [if_neg hI, if_neg hI]; exact ⟨rfl, rfl⟩
    rw [e.1, e.2]
    clear e
    have HI : Hid (¬ (Btw k 1 100 ∧ Ld n ∧ Ld m)) := hI
    clear hI
    by_cases hk : Btw k 1 100
    · have HK := Lib.hid (fun w => within_t k 1 100 w hk)
      by_cases hn : Ld n
      · have HL := Lib.hid (fun w => rload_any n true (by simp [hn]) w)
        have HM := Lib.hid (fun w => rload_any m false (by have := HI.out; simp [hk, hn] at this; simp [this]) w)
        clear hk hn
        go_enter Try.func27, Try.ntmps27
        go_wp2_with (first | (go_at_call 63; refine (HK.out _).mono ?_; rintro e w1 ⟨rfl, rfl⟩) | (go_at_call 67; (first | (with_reducible refine (HL.out _).mono ?_) | (with_reducible refine (HM.out _).mono ?_)); rintro e w1 ⟨rfl, rfl⟩))
        go_returns
        exact ⟨rfl, by (repeat' (first | (with_reducible exact Below.refl _ _) | (with_reducible assumption) | (with_reducible refine Below.alloc ?_ ?_ _) | (with_reducible refine Below.drew ?_) | (with_reducible refine below_drewN ?_ _) | (with_reducible refine Below.setCell ?_ ?_ _) | (with_reducible refine below_after ?_ ?_ _) | (with_reducible refine below_set ?_) | (with_reducible refine After.size_le _ ?_) | (with_reducible refine size_alloc_le ?_) | (with_reducible refine size_set_le ?_) | (with_reducible refine size_drewN_le ?_) | go_size))⟩
      · have HL := Lib.hid (fun w => rload_any n false (by simp [hn]) w)
        clear hk hn
        go_enter Try.func27, Try.ntmps27
        go_wp2_with (first | (go_at_call 63; refine (HK.out _).mono ?_; rintro e w1 ⟨rfl, rfl⟩) | (go_at_call 67; (with_reducible refine (HL.out _).mono ?_); rintro e w1 ⟨rfl, rfl⟩))
        go_returns
        exact ⟨rfl, by (repeat' (first | (with_reducible exact Below.refl _ _) | (with_reducible assumption) | (with_reducible refine Below.alloc ?_ ?_ _) | (with_reducible refine Below.drew ?_) | (with_reducible refine below_drewN ?_ _) | (with_reducible refine Below.setCell ?_ ?_ _) | (with_reducible refine below_after ?_ ?_ _) | (with_reducible refine below_set ?_) | (with_reducible refine After.size_le _ ?_) | (with_reducible refine size_alloc_le ?_) | (with_reducible refine size_set_le ?_) | (with_reducible refine size_drewN_le ?_) | go_size))⟩
    · have HK := Lib.hid (fun w => within_f k 1 100 w hk)
      clear hk
      go_enter Try.func27, Try.ntmps27
      go_wp2_with (first | (go_at_call 63; refine (HK.out _).mono ?_; rintro e w1 ⟨rfl, rfl⟩))
      go_returns
      exact ⟨rfl, by (repeat' (first | (with_reducible exact Below.refl _ _) | (with_reducible assumption) | (with_reducible refine Below.alloc ?_ ?_ _) | (with_reducible refine Below.drew ?_) | (with_reducible refine below_drewN ?_ _) | (with_reducible refine Below.setCell ?_ ?_ _) | (with_reducible refine below_after ?_ ?_ _) | (with_reducible refine below_set ?_) | (with_reducible refine After.size_le _ ?_) | (with_reducible refine size_alloc_le ?_) | (with_reducible refine size_set_le ?_) | (with_reducible refine size_drewN_le ?_) | go_size))⟩
end Go.Proofs.Ytnhkkboddoiinaa
