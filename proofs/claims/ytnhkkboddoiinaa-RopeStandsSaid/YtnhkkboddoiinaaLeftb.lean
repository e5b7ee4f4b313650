/- The exported Left, May and Safe, in both programs. -/
import Derived.Test.YtnhkkboddoiinaaMay
namespace Go.Proofs.Ytnhkkboddoiinaa
open Go.RowKit
attribute [local go_sem] After.cell After.frozen After.lt After.le After.ne After.ne' After.set_eq After.size_set After.lt_add

theorem erN_cases (s d l : Int) (ps : List (Int × Int)) (day n : Int) : erN s d l ps day n = 0 ∧ GoodW s d l ps ∧ Dy day ∧ Ld n ∨ erN s d l ps day n = 1 ∨ erN s d l ps day n = 7 := by
  unfold erN
  by_cases h : GoodW s d l ps
  · rw [if_pos h]
    by_cases h2 : Dy day ∧ Ld n
    · rw [if_pos h2]; exact .inl ⟨rfl, h, h2.1, h2.2⟩
    · rw [if_neg h2]; exact .inr (.inr rfl)
  · rw [if_neg h]; exact .inr (.inl rfl)
def lfV (s d l : Int) (ps : List (Int × Int)) (day : Int) : Int := if erN s d l ps day 0 = 0 then lft s d day ps else 0
def maV (s d l : Int) (ps : List (Int × Int)) (day n : Int) : Bool := if erN s d l ps day n = 0 then mayB s l (lft s d day ps) n else false
def saV (s d l : Int) (ps : List (Int × Int)) (day : Int) : Int := if erN s d l ps day 0 = 0 then if l ≤ lft s d day ps then sfV s (lft s d day ps) else 0 else 0
def saE (s d l : Int) (ps : List (Int × Int)) (day : Int) : Int := if erN s d l ps day 0 = 0 then if l ≤ lft s d day ps then 0 else 10 else erN s d l ps day 0

set_option maxRecDepth 100000 in
set_option maxHeartbeats 1000000 in
theorem leftR_any (s d l day : Int) (v : Value) (ps : List (Int × Int)) (w : World) (h : Prc w w.heap.size v ps) (hl : ps.length ≤ 1000) :
    Calls Try.prog 40 #[.agg #[.int .i64 s, .int .i64 d, .int .i64 l], v, .int .i64 day] w fun e w' => e = .returned (.tuple #[.int .i64 (lfV s d l ps day), .int .i64 (erN s d l ps day 0)]) ∧ Below w.heap.size w w' := by
  obtain ⟨a, cap, hv⟩ := prc_slice h
  have HC : Hid (∀ W, Below w.heap.size w W → _) := fun W hW => check_any s d l v ps day 0 W (prc_on h hW) hl
  rcases erN_cases s d l ps day 0 with ⟨e, hG, hD, _⟩ | e | e
  · rw [show lfV s d l ps day = lft s d day ps by unfold lfV; rw [if_pos e]]
    rw [e] at HC ⊢
    have HL : Hid (∀ W, Below w.heap.size w W → _) := fun W hW => wleft_any s d l day v ps W (prc_on h hW) hG hD
    generalize lft s d day ps = x at *
    clear h hG hD e
    subst hv
    generalize ps.length = m at *
    go_enter Try.func40, Try.ntmps40
    go_wp2_with fail
    refine calls_after (HC.out _ (by (repeat' (first | (with_reducible exact Below.refl _ _) | (with_reducible assumption) | (with_reducible refine Below.alloc ?_ ?_ _) | (with_reducible refine Below.drew ?_) | (with_reducible refine below_drewN ?_ _) | (with_reducible refine Below.setCell ?_ ?_ _) | (with_reducible refine below_after ?_ ?_ _) | (with_reducible refine below_set ?_) | (with_reducible refine After.size_le _ ?_) | (with_reducible refine size_alloc_le ?_) | (with_reducible refine size_set_le ?_) | (with_reducible refine size_drewN_le ?_) | go_size)))) ?_
    intro x1
    have hz_x1 := x1.out.size; (try simp only [World.size_alloc] at hz_x1); (try simp only [World.size_setCell] at hz_x1); (try simp only [World.size_alloc] at hz_x1); have k0_x1 : w.heap.size < x1.w.heap.size := (by omega); have j0_x1 : w.heap.size < x1.w.heap.size + 1 := (by omega); have k1_x1 : w.heap.size + 1 < x1.w.heap.size := (by omega); have j1_x1 : w.heap.size + 1 < x1.w.heap.size + 1 := (by omega)
    go_wp2_with fail
    refine calls_after2 (HL.out _ (by (repeat' (first | (with_reducible exact Below.refl _ _) | (with_reducible assumption) | (with_reducible refine Below.alloc ?_ ?_ _) | (with_reducible refine Below.drew ?_) | (with_reducible refine below_drewN ?_ _) | (with_reducible refine Below.setCell ?_ ?_ _) | (with_reducible refine below_after ?_ ?_ _) | (with_reducible refine below_set ?_) | (with_reducible refine After.size_le _ ?_) | (with_reducible refine size_alloc_le ?_) | (with_reducible refine size_set_le ?_) | (with_reducible refine size_drewN_le ?_) | go_size)))) ?_
    intro x2
    go_wp2
    go_returns
    exact ⟨rfl, by (repeat' (first | (with_reducible exact Below.refl _ _) | (with_reducible assumption) | (with_reducible refine Below.alloc ?_ ?_ _) | (with_reducible refine Below.drew ?_) | (with_reducible refine below_drewN ?_ _) | (with_reducible refine Below.setCell ?_ ?_ _) | (with_reducible refine below_after ?_ ?_ _) | (with_reducible refine below_set ?_) | (with_reducible refine After.size_le _ ?_) | (with_reducible refine size_alloc_le ?_) | (with_reducible refine size_set_le ?_) | (with_reducible refine size_drewN_le ?_) | go_size))⟩
  all_goals
    rw [show lfV s d l ps day = 0 by unfold lfV; rw [if_neg (by omega)]]
    rw [e] at HC ⊢
    clear h e
    subst hv
    generalize ps.length = m at *
    go_enter Try.func40, Try.ntmps40
    go_wp2_with fail
    refine calls_after (HC.out _ (by (repeat' (first | (with_reducible exact Below.refl _ _) | (with_reducible assumption) | (with_reducible refine Below.alloc ?_ ?_ _) | (with_reducible refine Below.drew ?_) | (with_reducible refine below_drewN ?_ _) | (with_reducible refine Below.setCell ?_ ?_ _) | (with_reducible refine below_after ?_ ?_ _) | (with_reducible refine below_set ?_) | (with_reducible refine After.size_le _ ?_) | (with_reducible refine size_alloc_le ?_) | (with_reducible refine size_set_le ?_) | (with_reducible refine size_drewN_le ?_) | go_size)))) ?_
    intro x1
    go_wp2
    go_returns
    exact ⟨rfl, by (repeat' (first | (with_reducible exact Below.refl _ _) | (with_reducible assumption) | (with_reducible refine Below.alloc ?_ ?_ _) | (with_reducible refine Below.drew ?_) | (with_reducible refine below_drewN ?_ _) | (with_reducible refine Below.setCell ?_ ?_ _) | (with_reducible refine below_after ?_ ?_ _) | (with_reducible refine below_set ?_) | (with_reducible refine After.size_le _ ?_) | (with_reducible refine size_alloc_le ?_) | (with_reducible refine size_set_le ?_) | (with_reducible refine size_drewN_le ?_) | go_size))⟩
set_option maxRecDepth 100000 in
set_option maxHeartbeats 1000000 in
theorem rleftR_any (s d l day : Int) (v : Value) (ps : List (Int × Int)) (w : World) (h : Prc w w.heap.size v ps) (hl : ps.length ≤ 1000) :
    Calls Try.prog 41 #[.agg #[.int .i64 s, .int .i64 d, .int .i64 l], v, .int .i64 day] w fun e w' => e = .returned (.tuple #[.int .i64 (lfV s d l ps day), .int .i64 (erN s d l ps day 0)]) ∧ Below w.heap.size w w' := by
  obtain ⟨a, cap, hv⟩ := prc_slice h
  have HC : Hid (∀ W, Below w.heap.size w W → _) := fun W hW => ropeError_any s d l v ps day 0 W (prc_on h hW) hl
  rcases erN_cases s d l ps day 0 with ⟨e, hG, hD, _⟩ | e | e
  · rw [show lfV s d l ps day = lft s d day ps by unfold lfV; rw [if_pos e]]
    rw [e] at HC ⊢
    have HL : Hid (∀ W, Below w.heap.size w W → _) := fun W hW => rleft_any s d l day v ps W (prc_on h hW) hG hD
    generalize lft s d day ps = x at *
    clear h hG hD e
    subst hv
    generalize ps.length = m at *
    go_enter Try.func41, Try.ntmps41
    go_wp2_with fail
    refine calls_after (HC.out _ (by (repeat' (first | (with_reducible exact Below.refl _ _) | (with_reducible assumption) | (with_reducible refine Below.alloc ?_ ?_ _) | (with_reducible refine Below.drew ?_) | (with_reducible refine below_drewN ?_ _) | (with_reducible refine Below.setCell ?_ ?_ _) | (with_reducible refine below_after ?_ ?_ _) | (with_reducible refine below_set ?_) | (with_reducible refine After.size_le _ ?_) | (with_reducible refine size_alloc_le ?_) | (with_reducible refine size_set_le ?_) | (with_reducible refine size_drewN_le ?_) | go_size)))) ?_
    intro x1
    have hz_x1 := x1.out.size; (try simp only [World.size_alloc] at hz_x1); (try simp only [World.size_setCell] at hz_x1); (try simp only [World.size_alloc] at hz_x1); have k0_x1 : w.heap.size < x1.w.heap.size := (by omega); have j0_x1 : w.heap.size < x1.w.heap.size + 1 := (by omega)
    go_wp2_with fail
    refine calls_after2 (HL.out _ (by (repeat' (first | (with_reducible exact Below.refl _ _) | (with_reducible assumption) | (with_reducible refine Below.alloc ?_ ?_ _) | (with_reducible refine Below.drew ?_) | (with_reducible refine below_drewN ?_ _) | (with_reducible refine Below.setCell ?_ ?_ _) | (with_reducible refine below_after ?_ ?_ _) | (with_reducible refine below_set ?_) | (with_reducible refine After.size_le _ ?_) | (with_reducible refine size_alloc_le ?_) | (with_reducible refine size_set_le ?_) | (with_reducible refine size_drewN_le ?_) | go_size)))) ?_
    intro x2
    go_wp2
    go_returns
    exact ⟨rfl, by (repeat' (first | (with_reducible exact Below.refl _ _) | (with_reducible assumption) | (with_reducible refine Below.alloc ?_ ?_ _) | (with_reducible refine Below.drew ?_) | (with_reducible refine below_drewN ?_ _) | (with_reducible refine Below.setCell ?_ ?_ _) | (with_reducible refine below_after ?_ ?_ _) | (with_reducible refine below_set ?_) | (with_reducible refine After.size_le _ ?_) | (with_reducible refine size_alloc_le ?_) | (with_reducible refine size_set_le ?_) | (with_reducible refine size_drewN_le ?_) | go_size))⟩
  all_goals
    rw [show lfV s d l ps day = 0 by unfold lfV; rw [if_neg (by omega)]]
    rw [e] at HC ⊢
    clear h e
    subst hv
    generalize ps.length = m at *
    go_enter Try.func41, Try.ntmps41
    go_wp2_with fail
    refine calls_after (HC.out _ (by (repeat' (first | (with_reducible exact Below.refl _ _) | (with_reducible assumption) | (with_reducible refine Below.alloc ?_ ?_ _) | (with_reducible refine Below.drew ?_) | (with_reducible refine below_drewN ?_ _) | (with_reducible refine Below.setCell ?_ ?_ _) | (with_reducible refine below_after ?_ ?_ _) | (with_reducible refine below_set ?_) | (with_reducible refine After.size_le _ ?_) | (with_reducible refine size_alloc_le ?_) | (with_reducible refine size_set_le ?_) | (with_reducible refine size_drewN_le ?_) | go_size)))) ?_
    intro x1
    go_wp2
    go_returns
    exact ⟨rfl, by (repeat' (first | (with_reducible exact Below.refl _ _) | (with_reducible assumption) | (with_reducible refine Below.alloc ?_ ?_ _) | (with_reducible refine Below.drew ?_) | (with_reducible refine below_drewN ?_ _) | (with_reducible refine Below.setCell ?_ ?_ _) | (with_reducible refine below_after ?_ ?_ _) | (with_reducible refine below_set ?_) | (with_reducible refine After.size_le _ ?_) | (with_reducible refine size_alloc_le ?_) | (with_reducible refine size_set_le ?_) | (with_reducible refine size_drewN_le ?_) | go_size))⟩
set_option maxRecDepth 100000 in
set_option maxHeartbeats 1000000 in
theorem mayR_any (s d l day n : Int) (v : Value) (ps : List (Int × Int)) (w : World) (h : Prc w w.heap.size v ps) (hl : ps.length ≤ 1000) :
    Calls Try.prog 46 #[.agg #[.int .i64 s, .int .i64 d, .int .i64 l], v, .int .i64 day, .int .i64 n] w fun e w' => e = .returned (.tuple #[.bool (maV s d l ps day n), .int .i64 (erN s d l ps day n)]) ∧ Below w.heap.size w w' := by
  obtain ⟨a, cap, hv⟩ := prc_slice h
  have HC : Hid (∀ W, Below w.heap.size w W → _) := fun W hW => check_any s d l v ps day n W (prc_on h hW) hl
  rcases erN_cases s d l ps day n with ⟨e, hG, hD, _⟩ | e | e
  · rw [show maV s d l ps day n = mayB s l (lft s d day ps) n by unfold maV; rw [if_pos e]]
    rw [e] at HC ⊢
    have HL : Hid (∀ W, Below w.heap.size w W → _) := fun W hW => wmay_any s d l day n v ps W (prc_on h hW) hG hD
    generalize mayB s l (lft s d day ps) n = x at *
    clear h hG hD e
    subst hv
    generalize ps.length = m at *
    go_enter Try.func46, Try.ntmps46
    go_wp2_with fail
    refine calls_after (HC.out _ (by (repeat' (first | (with_reducible exact Below.refl _ _) | (with_reducible assumption) | (with_reducible refine Below.alloc ?_ ?_ _) | (with_reducible refine Below.drew ?_) | (with_reducible refine below_drewN ?_ _) | (with_reducible refine Below.setCell ?_ ?_ _) | (with_reducible refine below_after ?_ ?_ _) | (with_reducible refine below_set ?_) | (with_reducible refine After.size_le _ ?_) | (with_reducible refine size_alloc_le ?_) | (with_reducible refine size_set_le ?_) | (with_reducible refine size_drewN_le ?_) | go_size)))) ?_
    intro x1
    have hz_x1 := x1.out.size; (try simp only [World.size_alloc] at hz_x1); (try simp only [World.size_setCell] at hz_x1); (try simp only [World.size_alloc] at hz_x1); have k0_x1 : w.heap.size < x1.w.heap.size := (by omega); have j0_x1 : w.heap.size < x1.w.heap.size + 1 := (by omega); have k1_x1 : w.heap.size + 1 < x1.w.heap.size := (by omega); have j1_x1 : w.heap.size + 1 < x1.w.heap.size + 1 := (by omega)
    go_wp2_with fail
    refine calls_after2 (HL.out _ (by (repeat' (first | (with_reducible exact Below.refl _ _) | (with_reducible assumption) | (with_reducible refine Below.alloc ?_ ?_ _) | (with_reducible refine Below.drew ?_) | (with_reducible refine below_drewN ?_ _) | (with_reducible refine Below.setCell ?_ ?_ _) | (with_reducible refine below_after ?_ ?_ _) | (with_reducible refine below_set ?_) | (with_reducible refine After.size_le _ ?_) | (with_reducible refine size_alloc_le ?_) | (with_reducible refine size_set_le ?_) | (with_reducible refine size_drewN_le ?_) | go_size)))) ?_
    intro x2
    go_wp2
    go_returns
    exact ⟨rfl, by (repeat' (first | (with_reducible exact Below.refl _ _) | (with_reducible assumption) | (with_reducible refine Below.alloc ?_ ?_ _) | (with_reducible refine Below.drew ?_) | (with_reducible refine below_drewN ?_ _) | (with_reducible refine Below.setCell ?_ ?_ _) | (with_reducible refine below_after ?_ ?_ _) | (with_reducible refine below_set ?_) | (with_reducible refine After.size_le _ ?_) | (with_reducible refine size_alloc_le ?_) | (with_reducible refine size_set_le ?_) | (with_reducible refine size_drewN_le ?_) | go_size))⟩
  all_goals
    rw [show maV s d l ps day n = false by unfold maV; rw [if_neg (by omega)]]
    rw [e] at HC ⊢
    clear h e
    subst hv
    generalize ps.length = m at *
    go_enter Try.func46, Try.ntmps46
    go_wp2_with fail
    refine calls_after (HC.out _ (by (repeat' (first | (with_reducible exact Below.refl _ _) | (with_reducible assumption) | (with_reducible refine Below.alloc ?_ ?_ _) | (with_reducible refine Below.drew ?_) | (with_reducible refine below_drewN ?_ _) | (with_reducible refine Below.setCell ?_ ?_ _) | (with_reducible refine below_after ?_ ?_ _) | (with_reducible refine below_set ?_) | (with_reducible refine After.size_le _ ?_) | (with_reducible refine size_alloc_le ?_) | (with_reducible refine size_set_le ?_) | (with_reducible refine size_drewN_le ?_) | go_size)))) ?_
    intro x1
    go_wp2
    go_returns
    exact ⟨rfl, by (repeat' (first | (with_reducible exact Below.refl _ _) | (with_reducible assumption) | (with_reducible refine Below.alloc ?_ ?_ _) | (with_reducible refine Below.drew ?_) | (with_reducible refine below_drewN ?_ _) | (with_reducible refine Below.setCell ?_ ?_ _) | (with_reducible refine below_after ?_ ?_ _) | (with_reducible refine below_set ?_) | (with_reducible refine After.size_le _ ?_) | (with_reducible refine size_alloc_le ?_) | (with_reducible refine size_set_le ?_) | (with_reducible refine size_drewN_le ?_) | go_size))⟩
set_option maxRecDepth 100000 in
set_option maxHeartbeats 1000000 in
theorem rmayR_any (s d l day n : Int) (v : Value) (ps : List (Int × Int)) (w : World) (h : Prc w w.heap.size v ps) (hl : ps.length ≤ 1000) :
    Calls Try.prog 47 #[.agg #[.int .i64 s, .int .i64 d, .int .i64 l], v, .int .i64 day, .int .i64 n] w fun e w' => e = .returned (.tuple #[.bool (maV s d l ps day n), .int .i64 (erN s d l ps day n)]) ∧ Below w.heap.size w w' := by
  obtain ⟨a, cap, hv⟩ := prc_slice h
  have HC : Hid (∀ W, Below w.heap.size w W → _) := fun W hW => ropeError_any s d l v ps day n W (prc_on h hW) hl
  rcases erN_cases s d l ps day n with ⟨e, hG, hD, hn⟩ | e | e
  · rw [show maV s d l ps day n = mayB s l (lft s d day ps) n by unfold maV; rw [if_pos e]]
    rw [e] at HC ⊢
    have HL : Hid (∀ W, Below w.heap.size w W → _) := fun W hW => rmay_any s d l day n v ps W (prc_on h hW) hG hD hn
    generalize mayB s l (lft s d day ps) n = x at *
    clear h hG hD hn e
    subst hv
    generalize ps.length = m at *
    go_enter Try.func47, Try.ntmps47
    go_wp2_with fail
    refine calls_after (HC.out _ (by (repeat' (first | (with_reducible exact Below.refl _ _) | (with_reducible assumption) | (with_reducible refine Below.alloc ?_ ?_ _) | (with_reducible refine Below.drew ?_) | (with_reducible refine below_drewN ?_ _) | (with_reducible refine Below.setCell ?_ ?_ _) | (with_reducible refine below_after ?_ ?_ _) | (with_reducible refine below_set ?_) | (with_reducible refine After.size_le _ ?_) | (with_reducible refine size_alloc_le ?_) | (with_reducible refine size_set_le ?_) | (with_reducible refine size_drewN_le ?_) | go_size)))) ?_
    intro x1
    have hz_x1 := x1.out.size; (try simp only [World.size_alloc] at hz_x1); (try simp only [World.size_setCell] at hz_x1); (try simp only [World.size_alloc] at hz_x1); have k0_x1 : w.heap.size < x1.w.heap.size := (by omega); have j0_x1 : w.heap.size < x1.w.heap.size + 1 := (by omega)
    go_wp2_with fail
    refine calls_after2 (HL.out _ (by (repeat' (first | (with_reducible exact Below.refl _ _) | (with_reducible assumption) | (with_reducible refine Below.alloc ?_ ?_ _) | (with_reducible refine Below.drew ?_) | (with_reducible refine below_drewN ?_ _) | (with_reducible refine Below.setCell ?_ ?_ _) | (with_reducible refine below_after ?_ ?_ _) | (with_reducible refine below_set ?_) | (with_reducible refine After.size_le _ ?_) | (with_reducible refine size_alloc_le ?_) | (with_reducible refine size_set_le ?_) | (with_reducible refine size_drewN_le ?_) | go_size)))) ?_
    intro x2
    go_wp2
    go_returns
    exact ⟨rfl, by (repeat' (first | (with_reducible exact Below.refl _ _) | (with_reducible assumption) | (with_reducible refine Below.alloc ?_ ?_ _) | (with_reducible refine Below.drew ?_) | (with_reducible refine below_drewN ?_ _) | (with_reducible refine Below.setCell ?_ ?_ _) | (with_reducible refine below_after ?_ ?_ _) | (with_reducible refine below_set ?_) | (with_reducible refine After.size_le _ ?_) | (with_reducible refine size_alloc_le ?_) | (with_reducible refine size_set_le ?_) | (with_reducible refine size_drewN_le ?_) | go_size))⟩
  all_goals
    rw [show maV s d l ps day n = false by unfold maV; rw [if_neg (by omega)]]
    rw [e] at HC ⊢
    clear h e
    subst hv
    generalize ps.length = m at *
    go_enter Try.func47, Try.ntmps47
    go_wp2_with fail
    refine calls_after (HC.out _ (by (repeat' (first | (with_reducible exact Below.refl _ _) | (with_reducible assumption) | (with_reducible refine Below.alloc ?_ ?_ _) | (with_reducible refine Below.drew ?_) | (with_reducible refine below_drewN ?_ _) | (with_reducible refine Below.setCell ?_ ?_ _) | (with_reducible refine below_after ?_ ?_ _) | (with_reducible refine below_set ?_) | (with_reducible refine After.size_le _ ?_) | (with_reducible refine size_alloc_le ?_) | (with_reducible refine size_set_le ?_) | (with_reducible refine size_drewN_le ?_) | go_size)))) ?_
    intro x1
    go_wp2
    go_returns
    exact ⟨rfl, by (repeat' (first | (with_reducible exact Below.refl _ _) | (with_reducible assumption) | (with_reducible refine Below.alloc ?_ ?_ _) | (with_reducible refine Below.drew ?_) | (with_reducible refine below_drewN ?_ _) | (with_reducible refine Below.setCell ?_ ?_ _) | (with_reducible refine below_after ?_ ?_ _) | (with_reducible refine below_set ?_) | (with_reducible refine After.size_le _ ?_) | (with_reducible refine size_alloc_le ?_) | (with_reducible refine size_set_le ?_) | (with_reducible refine size_drewN_le ?_) | go_size))⟩
set_option maxRecDepth 100000 in
set_option maxHeartbeats 1000000 in
theorem safeR_any (s d l day : Int) (v : Value) (ps : List (Int × Int)) (w : World) (h : Prc w w.heap.size v ps) (hl : ps.length ≤ 1000) :
    Calls Try.prog 48 #[.agg #[.int .i64 s, .int .i64 d, .int .i64 l], v, .int .i64 day] w fun e w' => e = .returned (.tuple #[.int .i64 (saV s d l ps day), .int .i64 (saE s d l ps day)]) ∧ Below w.heap.size w w' := by
  obtain ⟨a, cap, hv⟩ := prc_slice h
  have HC : Hid (∀ W, Below w.heap.size w W → _) := fun W hW => check_any s d l v ps day 0 W (prc_on h hW) hl
  rcases erN_cases s d l ps day 0 with ⟨e, hG, hD, _⟩ | e | e
  · have HL : Hid (∀ W, Below w.heap.size w W → _) := fun W hW => wsafe_any s d l day v ps W (prc_on h hW) hG hD
    by_cases hc : l ≤ lft s d day ps
    · rw [show saV s d l ps day = sfV s (lft s d day ps) by unfold saV; rw [if_pos e, if_pos hc], show saE s d l ps day = 0 by unfold saE; rw [if_pos e, if_pos hc]]
      rw [e] at HC
      rw [if_pos hc, decide_eq_true hc] at HL
      generalize sfV s (lft s d day ps) = x at *
      clear h hG hD e hc
      subst hv
      generalize ps.length = m at *
      go_enter Try.func48, Try.ntmps48
      go_wp2_with fail
      refine calls_after (HC.out _ (by (repeat' (first | (with_reducible exact Below.refl _ _) | (with_reducible assumption) | (with_reducible refine Below.alloc ?_ ?_ _) | (with_reducible refine Below.drew ?_) | (with_reducible refine below_drewN ?_ _) | (with_reducible refine Below.setCell ?_ ?_ _) | (with_reducible refine below_after ?_ ?_ _) | (with_reducible refine below_set ?_) | (with_reducible refine After.size_le _ ?_) | (with_reducible refine size_alloc_le ?_) | (with_reducible refine size_set_le ?_) | (with_reducible refine size_drewN_le ?_) | go_size)))) ?_
      intro x1
      have hz_x1 := x1.out.size; (try simp only [World.size_alloc] at hz_x1); (try simp only [World.size_setCell] at hz_x1); (try simp only [World.size_alloc] at hz_x1); have k0_x1 : w.heap.size < x1.w.heap.size := (by omega); have j0_x1 : w.heap.size < x1.w.heap.size + 1 := (by omega); have k1_x1 : w.heap.size + 1 < x1.w.heap.size := (by omega); have j1_x1 : w.heap.size + 1 < x1.w.heap.size + 1 := (by omega)
      go_wp2_with fail
      refine calls_after2 (HL.out _ (by (repeat' (first | (with_reducible exact Below.refl _ _) | (with_reducible assumption) | (with_reducible refine Below.alloc ?_ ?_ _) | (with_reducible refine Below.drew ?_) | (with_reducible refine below_drewN ?_ _) | (with_reducible refine Below.setCell ?_ ?_ _) | (with_reducible refine below_after ?_ ?_ _) | (with_reducible refine below_set ?_) | (with_reducible refine After.size_le _ ?_) | (with_reducible refine size_alloc_le ?_) | (with_reducible refine size_set_le ?_) | (with_reducible refine size_drewN_le ?_) | go_size)))) ?_
      intro x2
      go_wp2
      go_returns
      exact ⟨rfl, by (repeat' (first | (with_reducible exact Below.refl _ _) | (with_reducible assumption) | (with_reducible refine Below.alloc ?_ ?_ _) | (with_reducible refine Below.drew ?_) | (with_reducible refine below_drewN ?_ _) | (with_reducible refine Below.setCell ?_ ?_ _) | (with_reducible refine below_after ?_ ?_ _) | (with_reducible refine below_set ?_) | (with_reducible refine After.size_le _ ?_) | (with_reducible refine size_alloc_le ?_) | (with_reducible refine size_set_le ?_) | (with_reducible refine size_drewN_le ?_) | go_size))⟩
    · rw [show saV s d l ps day = 0 by unfold saV; rw [if_pos e, if_neg hc], show saE s d l ps day = 10 by unfold saE; rw [if_pos e, if_neg hc]]
      rw [e] at HC
      rw [if_neg hc, decide_eq_false hc] at HL
      clear h hG hD e hc
      subst hv
      generalize ps.length = m at *
      go_enter Try.func48, Try.ntmps48
      go_wp2_with fail
      refine calls_after (HC.out _ (by (repeat' (first | (with_reducible exact Below.refl _ _) | (with_reducible assumption) | (with_reducible refine Below.alloc ?_ ?_ _) | (with_reducible refine Below.drew ?_) | (with_reducible refine below_drewN ?_ _) | (with_reducible refine Below.setCell ?_ ?_ _) | (with_reducible refine below_after ?_ ?_ _) | (with_reducible refine below_set ?_) | (with_reducible refine After.size_le _ ?_) | (with_reducible refine size_alloc_le ?_) | (with_reducible refine size_set_le ?_) | (with_reducible refine size_drewN_le ?_) | go_size)))) ?_
      intro x1
      have hz_x1 := x1.out.size; (try simp only [World.size_alloc] at hz_x1); (try simp only [World.size_setCell] at hz_x1); (try simp only [World.size_alloc] at hz_x1); have k0_x1 : w.heap.size < x1.w.heap.size := (by omega); have j0_x1 : w.heap.size < x1.w.heap.size + 1 := (by omega); have k1_x1 : w.heap.size + 1 < x1.w.heap.size := (by omega); have j1_x1 : w.heap.size + 1 < x1.w.heap.size + 1 := (by omega)
      go_wp2_with fail
      refine calls_after2 (HL.out _ (by (repeat' (first | (with_reducible exact Below.refl _ _) | (with_reducible assumption) | (with_reducible refine Below.alloc ?_ ?_ _) | (with_reducible refine Below.drew ?_) | (with_reducible refine below_drewN ?_ _) | (with_reducible refine Below.setCell ?_ ?_ _) | (with_reducible refine below_after ?_ ?_ _) | (with_reducible refine below_set ?_) | (with_reducible refine After.size_le _ ?_) | (with_reducible refine size_alloc_le ?_) | (with_reducible refine size_set_le ?_) | (with_reducible refine size_drewN_le ?_) | go_size)))) ?_
      intro x2
      go_wp2
      go_returns
      exact ⟨rfl, by (repeat' (first | (with_reducible exact Below.refl _ _) | (with_reducible assumption) | (with_reducible refine Below.alloc ?_ ?_ _) | (with_reducible refine Below.drew ?_) | (with_reducible refine below_drewN ?_ _) | (with_reducible refine Below.setCell ?_ ?_ _) | (with_reducible refine below_after ?_ ?_ _) | (with_reducible refine below_set ?_) | (with_reducible refine After.size_le _ ?_) | (with_reducible refine size_alloc_le ?_) | (with_reducible refine size_set_le ?_) | (with_reducible refine size_drewN_le ?_) | go_size))⟩
  all_goals
    rw [show saV s d l ps day = 0 by unfold saV; rw [if_neg (by omega)], show saE s d l ps day = erN s d l ps day 0 by unfold saE; rw [if_neg (by omega)]]
    rw [e] at HC ⊢
    clear h e
    subst hv
    generalize ps.length = m at *
    go_enter Try.func48, Try.ntmps48
    go_wp2_with fail
    refine calls_after (HC.out _ (by (repeat' (first | (with_reducible exact Below.refl _ _) | (with_reducible assumption) | (with_reducible refine Below.alloc ?_ ?_ _) | (with_reducible refine Below.drew ?_) | (with_reducible refine below_drewN ?_ _) | (with_reducible refine Below.setCell ?_ ?_ _) | (with_reducible refine below_after ?_ ?_ _) | (with_reducible refine below_set ?_) | (with_reducible refine After.size_le _ ?_) | (with_reducible refine size_alloc_le ?_) | (with_reducible refine size_set_le ?_) | (with_reducible refine size_drewN_le ?_) | go_size)))) ?_
    intro x1
    go_wp2
    go_returns
    exact ⟨rfl, by (repeat' (first | (with_reducible exact Below.refl _ _) | (with_reducible assumption) | (with_reducible refine Below.alloc ?_ ?_ _) | (with_reducible refine Below.drew ?_) | (with_reducible refine below_drewN ?_ _) | (with_reducible refine Below.setCell ?_ ?_ _) | (with_reducible refine below_after ?_ ?_ _) | (with_reducible refine below_set ?_) | (with_reducible refine After.size_le _ ?_) | (with_reducible refine size_alloc_le ?_) | (with_reducible refine size_set_le ?_) | (with_reducible refine size_drewN_le ?_) | go_size))⟩
set_option maxRecDepth 100000 in
set_option maxHeartbeats 1000000 in
theorem rsafeR_any (s d l day : Int) (v : Value) (ps : List (Int × Int)) (w : World) (h : Prc w w.heap.size v ps) (hl : ps.length ≤ 1000) :
    Calls Try.prog 49 #[.agg #[.int .i64 s, .int .i64 d, .int .i64 l], v, .int .i64 day] w fun e w' => e = .returned (.tuple #[.int .i64 (saV s d l ps day), .int .i64 (saE s d l ps day)]) ∧ Below w.heap.size w w' := by
  obtain ⟨a, cap, hv⟩ := prc_slice h
  have HC : Hid (∀ W, Below w.heap.size w W → _) := fun W hW => ropeError_any s d l v ps day 0 W (prc_on h hW) hl
  rcases erN_cases s d l ps day 0 with ⟨e, hG, hD, _⟩ | e | e
  · have HL : Hid (∀ W, Below w.heap.size w W → _) := fun W hW => rleft_any s d l day v ps W (prc_on h hW) hG hD
    obtain ⟨x1, x2⟩ := lft_bd (s := s) hG.1.1.1 hG.2 hG.1.2.1 hD
    obtain ⟨y1, y2⟩ := sl_bd hG.1.1 x1 x2
    by_cases hc : l ≤ lft s d day ps
    · rw [show saV s d l ps day = s * lft s d day ps / 5000 by unfold saV; rw [if_pos e, if_pos hc]; rfl, show saE s d l ps day = 0 by unfold saE; rw [if_pos e, if_pos hc]]
      rw [e] at HC
      generalize lft s d day ps = x at *
      have hd : decide (x < l) = false := decide_eq_false (by omega)
      clear h hG hD e
      subst hv
      generalize ps.length = m at *
      go_enter Try.func49, Try.ntmps49
      go_wp2_with fail
      refine calls_after (HC.out _ (by (repeat' (first | (with_reducible exact Below.refl _ _) | (with_reducible assumption) | (with_reducible refine Below.alloc ?_ ?_ _) | (with_reducible refine Below.drew ?_) | (with_reducible refine below_drewN ?_ _) | (with_reducible refine Below.setCell ?_ ?_ _) | (with_reducible refine below_after ?_ ?_ _) | (with_reducible refine below_set ?_) | (with_reducible refine After.size_le _ ?_) | (with_reducible refine size_alloc_le ?_) | (with_reducible refine size_set_le ?_) | (with_reducible refine size_drewN_le ?_) | go_size)))) ?_
      intro x1
      have hz_x1 := x1.out.size; (try simp only [World.size_alloc] at hz_x1); (try simp only [World.size_setCell] at hz_x1); (try simp only [World.size_alloc] at hz_x1); have k0_x1 : w.heap.size < x1.w.heap.size := (by omega); have j0_x1 : w.heap.size < x1.w.heap.size + 1 := (by omega)
      go_wp2_with fail
      refine calls_after2 (HL.out _ (by (repeat' (first | (with_reducible exact Below.refl _ _) | (with_reducible assumption) | (with_reducible refine Below.alloc ?_ ?_ _) | (with_reducible refine Below.drew ?_) | (with_reducible refine below_drewN ?_ _) | (with_reducible refine Below.setCell ?_ ?_ _) | (with_reducible refine below_after ?_ ?_ _) | (with_reducible refine below_set ?_) | (with_reducible refine After.size_le _ ?_) | (with_reducible refine size_alloc_le ?_) | (with_reducible refine size_set_le ?_) | (with_reducible refine size_drewN_le ?_) | go_size)))) ?_
      intro x2
      have hz_x2 := x2.out.size; (try simp only [World.size_alloc] at hz_x2); (try simp only [World.size_setCell] at hz_x2); (try simp only [World.size_alloc] at hz_x2); have k0_x2 : w.heap.size < x2.w.heap.size := (by omega); have j0_x2 : w.heap.size < x2.w.heap.size + 1 := (by omega)
      go_wp2
      go_returns
      exact ⟨rfl, by (repeat' (first | (with_reducible exact Below.refl _ _) | (with_reducible assumption) | (with_reducible refine Below.alloc ?_ ?_ _) | (with_reducible refine Below.drew ?_) | (with_reducible refine below_drewN ?_ _) | (with_reducible refine Below.setCell ?_ ?_ _) | (with_reducible refine below_after ?_ ?_ _) | (with_reducible refine below_set ?_) | (with_reducible refine After.size_le _ ?_) | (with_reducible refine size_alloc_le ?_) | (with_reducible refine size_set_le ?_) | (with_reducible refine size_drewN_le ?_) | go_size))⟩
    · rw [show saV s d l ps day = 0 by unfold saV; rw [if_pos e, if_neg hc], show saE s d l ps day = 10 by unfold saE; rw [if_pos e, if_neg hc]]
      rw [e] at HC
      generalize lft s d day ps = x at *
      have hd : decide (x < l) = true := decide_eq_true (by omega)
      clear h hG hD e
      subst hv
      generalize ps.length = m at *
      go_enter Try.func49, Try.ntmps49
      go_wp2_with fail
      refine calls_after (HC.out _ (by (repeat' (first | (with_reducible exact Below.refl _ _) | (with_reducible assumption) | (with_reducible refine Below.alloc ?_ ?_ _) | (with_reducible refine Below.drew ?_) | (with_reducible refine below_drewN ?_ _) | (with_reducible refine Below.setCell ?_ ?_ _) | (with_reducible refine below_after ?_ ?_ _) | (with_reducible refine below_set ?_) | (with_reducible refine After.size_le _ ?_) | (with_reducible refine size_alloc_le ?_) | (with_reducible refine size_set_le ?_) | (with_reducible refine size_drewN_le ?_) | go_size)))) ?_
      intro x1
      have hz_x1 := x1.out.size; (try simp only [World.size_alloc] at hz_x1); (try simp only [World.size_setCell] at hz_x1); (try simp only [World.size_alloc] at hz_x1); have k0_x1 : w.heap.size < x1.w.heap.size := (by omega); have j0_x1 : w.heap.size < x1.w.heap.size + 1 := (by omega)
      go_wp2_with fail
      refine calls_after2 (HL.out _ (by (repeat' (first | (with_reducible exact Below.refl _ _) | (with_reducible assumption) | (with_reducible refine Below.alloc ?_ ?_ _) | (with_reducible refine Below.drew ?_) | (with_reducible refine below_drewN ?_ _) | (with_reducible refine Below.setCell ?_ ?_ _) | (with_reducible refine below_after ?_ ?_ _) | (with_reducible refine below_set ?_) | (with_reducible refine After.size_le _ ?_) | (with_reducible refine size_alloc_le ?_) | (with_reducible refine size_set_le ?_) | (with_reducible refine size_drewN_le ?_) | go_size)))) ?_
      intro x2
      have hz_x2 := x2.out.size; (try simp only [World.size_alloc] at hz_x2); (try simp only [World.size_setCell] at hz_x2); (try simp only [World.size_alloc] at hz_x2); have k0_x2 : w.heap.size < x2.w.heap.size := (by omega); have j0_x2 : w.heap.size < x2.w.heap.size + 1 := (by omega)
      go_wp2
      go_returns
      exact ⟨rfl, by (repeat' (first | (with_reducible exact Below.refl _ _) | (with_reducible assumption) | (with_reducible refine Below.alloc ?_ ?_ _) | (with_reducible refine Below.drew ?_) | (with_reducible refine below_drewN ?_ _) | (with_reducible refine Below.setCell ?_ ?_ _) | (with_reducible refine below_after ?_ ?_ _) | (with_reducible refine below_set ?_) | (with_reducible refine After.size_le _ ?_) | (with_reducible refine size_alloc_le ?_) | (with_reducible refine size_set_le ?_) | (with_reducible refine size_drewN_le ?_) | go_size))⟩
  all_goals
    rw [show saV s d l ps day = 0 by unfold saV; rw [if_neg (by omega)], show saE s d l ps day = erN s d l ps day 0 by unfold saE; rw [if_neg (by omega)]]
    rw [e] at HC ⊢
    clear h e
    subst hv
    generalize ps.length = m at *
    go_enter Try.func49, Try.ntmps49
    go_wp2_with fail
    refine calls_after (HC.out _ (by (repeat' (first | (with_reducible exact Below.refl _ _) | (with_reducible assumption) | (with_reducible refine Below.alloc ?_ ?_ _) | (with_reducible refine Below.drew ?_) | (with_reducible refine below_drewN ?_ _) | (with_reducible refine Below.setCell ?_ ?_ _) | (with_reducible refine below_after ?_ ?_ _) | (with_reducible refine below_set ?_) | (with_reducible refine After.size_le _ ?_) | (with_reducible refine size_alloc_le ?_) | (with_reducible refine size_set_le ?_) | (with_reducible refine size_drewN_le ?_) | go_size)))) ?_
    intro x1
    go_wp2
    go_returns
    exact ⟨rfl, by (repeat' (first | (with_reducible exact Below.refl _ _) | (with_reducible assumption) | (with_reducible refine Below.alloc ?_ ?_ _) | (with_reducible refine Below.drew ?_) | (with_reducible refine below_drewN ?_ _) | (with_reducible refine Below.setCell ?_ ?_ _) | (with_reducible refine below_after ?_ ?_ _) | (with_reducible refine below_set ?_) | (with_reducible refine After.size_le _ ?_) | (with_reducible refine size_alloc_le ?_) | (with_reducible refine size_set_le ?_) | (with_reducible refine size_drewN_le ?_) | go_size))⟩
end Go.Proofs.Ytnhkkboddoiinaa
