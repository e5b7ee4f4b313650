/- RopeRetires: the law's walk. -/
import Derived.Test.YtciicijindanlaaTestr
import Derived.Test.YtciicijindanlaaWrong
namespace Go.Proofs.Ytciicijindanlaa
open Go.RowKit
attribute [local go_sem] After.cell After.frozen After.lt After.le After.ne After.ne' After.set_eq After.size_set After.lt_add

set_option maxHeartbeats 400000 in
theorem sameInts_nil (a a' : Option Addr) (c c' : Nat) (w : World) :
    Calls Try.prog 54 #[.slice a 0 c, .slice a' 0 c'] w fun e w' => e = .returned (.bool true) ∧ Below w.heap.size w w' := by
  go_enter Try.func54, Try.ntmps54
  go_wp2
  go_loopw [5] (fun i wr => i = .int .i64 0 ∧ ∃ x : After w, wr = x.w) (fun _ _ => 0)
  case atStart => exact ⟨rfl, ⟨w, Below.refl _ _⟩, rfl⟩
  case round =>
    obtain ⟨rfl, x, rfl⟩ := hrel
    go_wp2
    go_ret
    exact ⟨rfl, by (repeat' (first | (with_reducible exact Below.refl _ _) | (with_reducible assumption) | (with_reducible refine Below.alloc ?_ ?_ _) | (with_reducible refine Below.drew ?_) | (with_reducible refine below_drewN ?_ _) | (with_reducible refine Below.setCell ?_ ?_ _) | (with_reducible refine below_after ?_ ?_ _) | (with_reducible refine below_set ?_) | (with_reducible refine After.size_le _ ?_) | (with_reducible refine size_alloc_le ?_) | (with_reducible refine size_set_le ?_) | (with_reducible refine size_drewN_le ?_) | go_size))⟩
set_option maxHeartbeats 1000000 in
theorem sameInts_row (b off b' off' n c c' : Nat) (f : Nat → Int) (w : World) (hb : b < w.heap.size) (hb' : b' < w.heap.size) (hn : n ≤ 1000)
    (hc : ∀ i, i < n → w.cell? ⟨b, off + i, none⟩ = some (.int .i64 (f i))) (hc' : ∀ i, i < n → w.cell? ⟨b', off' + i, none⟩ = some (.int .i64 (f i))) :
    Calls Try.prog 54 #[.slice (some ⟨b, off, none⟩) n c, .slice (some ⟨b', off', none⟩) n c'] w fun e w' => e = .returned (.bool true) ∧ Below w.heap.size w w' := by
  have HC := Lib.hid hc
  have HC' := Lib.hid hc'
  clear hc hc'
  go_enter Try.func54, Try.ntmps54
  go_wp2
  go_loopw [5] (fun i wr => ∃ k : Nat, k ≤ n ∧ i = .int .i64 k ∧ ∃ x : After w, wr = x.w) (fun i _ => n - (intOf i).toNat)
  case atStart => exact ⟨0, by omega, rfl, ⟨w, Below.refl _ _⟩, rfl⟩
  case round =>
    obtain ⟨k, hk, rfl, x, rfl⟩ := hrel
    by_cases hlt : k < n
    · have c1 := HC.out k hlt
      have c2 := HC'.out k hlt
      go_wp2
      refine wp_region_after (by kernel_rfl) (by kernel_rfl) ?_; (repeat (first | go_big_quiet_step ((fail)) | (refine wpQuiet_step (fun K hK => ?_); go_simp; first | (refine hK _ ?_; clear hK K) | (apply Exists.intro; refine ⟨fun x => ?_, hK _ ?_⟩; (fail); clear hK K)))); refine wpQuiet_nil ?_
      intro y
      go_wp2
      go_roundw
      case rel => exact ⟨k + 1, by omega, by go_num, ⟨_, x.out.trans (y.out.mono x.out.size)⟩, rfl⟩
      case measure => simp [intOf]; omega
    · obtain rfl : n = k := by omega
      go_wp2
      go_ret
      exact ⟨rfl, by (repeat' (first | (with_reducible exact Below.refl _ _) | (with_reducible assumption) | (with_reducible refine Below.alloc ?_ ?_ _) | (with_reducible refine Below.drew ?_) | (with_reducible refine below_drewN ?_ _) | (with_reducible refine Below.setCell ?_ ?_ _) | (with_reducible refine below_after ?_ ?_ _) | (with_reducible refine below_set ?_) | (with_reducible refine After.size_le _ ?_) | (with_reducible refine size_alloc_le ?_) | (with_reducible refine size_set_le ?_) | (with_reducible refine size_drewN_le ?_) | go_size))⟩
theorem sameInts_own {W : World} {B B' : Nat} {v v' : Value} {L : List Nat} (hL : L.length ≤ 1000) (hr1 : W.ownsRow B 3 1 v L.length (ixC L)) (hr2 : W.ownsRow B' 3 1 v' L.length (ixC L)) :
    Calls Try.prog 54 #[v, v'] W fun e w' => e = .returned (.bool true) ∧ Below W.heap.size W w' := by
  by_cases h0 : L.length = 0
  · rw [h0] at hr1 hr2
    rcases Go.Joins.ownsRow_forms hr1 with ⟨rfl, _⟩ | ⟨g, c, rfl⟩ <;> rcases Go.Joins.ownsRow_forms hr2 with ⟨rfl, _⟩ | ⟨g', c', rfl⟩ <;> exact sameInts_nil _ _ _ _ _
  · obtain ⟨g, c, rfl⟩ := Go.Joins.ownsRow_form hr1 (by omega)
    obtain ⟨g', c', rfl⟩ := Go.Joins.ownsRow_form hr2 (by omega)
    refine sameInts_row g 0 g' 0 L.length c c' (fun i => ((L.getD i 0 : Nat) : Int)) W (hr1.lt g rfl).2 (hr2.lt g' rfl).2 (by omega) (fun i hi => ?_) (fun i hi => ?_)
    · rw [Nat.zero_add, hr1.cellAt _ (by omega)]
      simp [ixC, hi]
    · rw [Nat.zero_add, hr2.cellAt _ (by omega)]
      simp [ixC, hi]

set_option maxRecDepth 100000 in
set_option maxHeartbeats 1000000 in
theorem ropeRetires_long (s d l : Int) (a : Option Addr) (n cap : Nat) (w : World) (h : 100 < n) (h2 : n ≤ 500 ∨ 700 < n) :
    Calls Try.prog 11 #[.agg #[.int .i64 s, .int .i64 d, .int .i64 l], .slice a n cap] w fun e w' => e = .returned (.bool true) ∧ Below w.heap.size w w' := by
  have d1 : decide ((100 : Int) < (n : Int)) = true := decide_eq_true (by omega)
  by_cases h5 : n ≤ 500
  · have d2 : decide ((n : Int) ≤ 500) = true := decide_eq_true (by omega)
    go_enter Try.func11, Try.ntmps11
    go_wp2_with fail
    refine calls_after (awake_any _) ?_
    intro x1
    go_wp2
    go_ret
    exact ⟨rfl, by (repeat' (first | (with_reducible exact Below.refl _ _) | (with_reducible assumption) | (with_reducible refine Below.alloc ?_ ?_ _) | (with_reducible refine Below.drew ?_) | (with_reducible refine below_drewN ?_ _) | (with_reducible refine Below.setCell ?_ ?_ _) | (with_reducible refine below_after ?_ ?_ _) | (with_reducible refine below_set ?_) | (with_reducible refine After.size_le _ ?_) | (with_reducible refine size_alloc_le ?_) | (with_reducible refine size_set_le ?_) | (with_reducible refine size_drewN_le ?_) | go_size))⟩
  · have d2 : decide ((n : Int) ≤ 500) = false := decide_eq_false (by omega)
    have d3 : decide ((700 : Int) < (n : Int)) = true := decide_eq_true (by omega)
    go_enter Try.func11, Try.ntmps11
    go_wp2_with fail
    refine calls_after (awake_any _) ?_
    intro x1
    go_wp2
    go_ret
    exact ⟨rfl, by (repeat' (first | (with_reducible exact Below.refl _ _) | (with_reducible assumption) | (with_reducible refine Below.alloc ?_ ?_ _) | (with_reducible refine Below.drew ?_) | (with_reducible refine below_drewN ?_ _) | (with_reducible refine Below.setCell ?_ ?_ _) | (with_reducible refine below_after ?_ ?_ _) | (with_reducible refine below_set ?_) | (with_reducible refine After.size_le _ ?_) | (with_reducible refine size_alloc_le ?_) | (with_reducible refine size_set_le ?_) | (with_reducible refine size_drewN_le ?_) | go_size))⟩

set_option maxRecDepth 100000 in
set_option maxHeartbeats 2000000 in
theorem ropeRetires_ok (s d l : Int) (v : Value) (ps : List (Int × Int)) (w : World) (h : Prc w w.heap.size v ps) (hl : ps.length ≤ 700) (hl2 : ps.length ≤ 100 ∨ 500 < ps.length) :
    Calls Try.prog 11 #[.agg #[.int .i64 s, .int .i64 d, .int .i64 l], v] w fun e w' => e = .returned (.bool true) ∧ Below w.heap.size w w' := by
  obtain ⟨a, cap, hv⟩ := prc_slice h
  have d3 : decide ((700 : Int) < (ps.length : Int)) = false := decide_eq_false (by omega)
  have H1 : Hid (∀ W, Below w.heap.size w W → _) := fun W hW => retires_any s d l v ps W (prc_on h hW) (by omega)
  have H2 : Hid (∀ W, Below w.heap.size w W → _) := fun W hW => rretires_any s d l v ps W (prc_on h hW) (by omega)
  by_cases hG : GoodW s d l ps
  · have H3 : Hid (∀ W, Below w.heap.size w W → _) := fun W hW => wrong_any s d l v ps W (prc_on h hW) hG
    have H4 : Hid (∀ W, Below w.heap.size w W → _) := fun W hW => rwrong_any s d l v ps W (prc_on h hW) hG
    have hL := wrL_le s d l ps ps.length
    have hl5 := hG.2.1
    have d1 : decide ((100 : Int) < (ps.length : Int)) = false := decide_eq_false (by omega)
    clear h hG
    unfold WrAns at H3 H4
    subst hv
    generalize rtV s d l ps = R at *
    generalize rtE s d l ps = E at *
    generalize wrL s d l ps ps.length = L at *
    generalize ps.length = n at *
    go_enter Try.func11, Try.ntmps11
    go_wp2_with fail
    refine calls_after (H1.out _ (by (repeat' (first | (with_reducible exact Below.refl _ _) | (with_reducible assumption) | (with_reducible refine Below.alloc ?_ ?_ _) | (with_reducible refine Below.drew ?_) | (with_reducible refine below_drewN ?_ _) | (with_reducible refine Below.setCell ?_ ?_ _) | (with_reducible refine below_after ?_ ?_ _) | (with_reducible refine below_set ?_) | (with_reducible refine After.size_le _ ?_) | (with_reducible refine size_alloc_le ?_) | (with_reducible refine size_set_le ?_) | (with_reducible refine size_drewN_le ?_) | go_size)))) ?_
    intro x1
    have hz_x1 := x1.out.size; (try simp only [World.size_alloc] at hz_x1); (try simp only [World.size_setCell] at hz_x1); (try simp only [World.size_alloc] at hz_x1); have k0_x1 : w.heap.size < x1.w.heap.size := (by omega); have j0_x1 : w.heap.size < x1.w.heap.size + 1 := (by omega)
    go_wp2_with fail
    refine calls_after2 (H2.out _ (by (repeat' (first | (with_reducible exact Below.refl _ _) | (with_reducible assumption) | (with_reducible refine Below.alloc ?_ ?_ _) | (with_reducible refine Below.drew ?_) | (with_reducible refine below_drewN ?_ _) | (with_reducible refine Below.setCell ?_ ?_ _) | (with_reducible refine below_after ?_ ?_ _) | (with_reducible refine below_set ?_) | (with_reducible refine After.size_le _ ?_) | (with_reducible refine size_alloc_le ?_) | (with_reducible refine size_set_le ?_) | (with_reducible refine size_drewN_le ?_) | go_size)))) ?_
    intro x2
    have hz_x2 := x2.out.size; (try simp only [World.size_alloc] at hz_x2); (try simp only [World.size_setCell] at hz_x2); (try simp only [World.size_alloc] at hz_x2); have k0_x2 : w.heap.size < x2.w.heap.size := (by omega); have j0_x2 : w.heap.size < x2.w.heap.size + 1 := (by omega)
    go_wp2_with fail
    refine (H3.out _ (by (repeat' (first | (with_reducible exact Below.refl _ _) | (with_reducible assumption) | (with_reducible refine Below.alloc ?_ ?_ _) | (with_reducible refine Below.drew ?_) | (with_reducible refine below_drewN ?_ _) | (with_reducible refine Below.setCell ?_ ?_ _) | (with_reducible refine below_after ?_ ?_ _) | (with_reducible refine below_set ?_) | (with_reducible refine After.size_le _ ?_) | (with_reducible refine size_alloc_le ?_) | (with_reducible refine size_set_le ?_) | (with_reducible refine size_drewN_le ?_) | go_size)))).mono ?_
    rintro e w1 ⟨v1, rfl, hr1, hb1⟩
    have HR1 := Lib.hid hr1
    obtain ⟨x3, rfl⟩ : ∃ x3 : After x2.w, w1 = x3.w := ⟨⟨w1, hb1⟩, rfl⟩
    clear hr1 hb1
    have hz_x3 := x3.out.size; (try simp only [World.size_alloc] at hz_x3); (try simp only [World.size_setCell] at hz_x3); (try simp only [World.size_alloc] at hz_x3); have k0_x3 : w.heap.size < x3.w.heap.size := (by omega); have j0_x3 : w.heap.size < x3.w.heap.size + 1 := (by omega)
    go_wp2_with fail
    refine (H4.out _ (by (repeat' (first | (with_reducible exact Below.refl _ _) | (with_reducible assumption) | (with_reducible refine Below.alloc ?_ ?_ _) | (with_reducible refine Below.drew ?_) | (with_reducible refine below_drewN ?_ _) | (with_reducible refine Below.setCell ?_ ?_ _) | (with_reducible refine below_after ?_ ?_ _) | (with_reducible refine below_set ?_) | (with_reducible refine After.size_le _ ?_) | (with_reducible refine size_alloc_le ?_) | (with_reducible refine size_set_le ?_) | (with_reducible refine size_drewN_le ?_) | go_size)))).mono ?_
    rintro e w2 ⟨v2, rfl, hr2, hb2⟩
    have HS := Lib.hid (sameInts_own (by omega) (owns_below HR1.out hb2) hr2)
    obtain ⟨x4, rfl⟩ : ∃ x4 : After x3.w, w2 = x4.w := ⟨⟨w2, hb2⟩, rfl⟩
    clear hr2 hb2 HR1
    have hz_x4 := x4.out.size; (try simp only [World.size_alloc] at hz_x4); (try simp only [World.size_setCell] at hz_x4); (try simp only [World.size_alloc] at hz_x4); have k0_x4 : w.heap.size < x4.w.heap.size := (by omega); have j0_x4 : w.heap.size < x4.w.heap.size + 1 := (by omega)
    go_wp2_with fail
    refine calls_after2 HS.out ?_
    intro x5
    go_wp2_with fail
    refine calls_after2 (awake_any _) ?_
    intro x6
    go_wp2
    go_ret
    exact ⟨rfl, by (repeat' (first | (with_reducible exact Below.refl _ _) | (with_reducible assumption) | (with_reducible refine Below.alloc ?_ ?_ _) | (with_reducible refine Below.drew ?_) | (with_reducible refine below_drewN ?_ _) | (with_reducible refine Below.setCell ?_ ?_ _) | (with_reducible refine below_after ?_ ?_ _) | (with_reducible refine below_set ?_) | (with_reducible refine After.size_le _ ?_) | (with_reducible refine size_alloc_le ?_) | (with_reducible refine size_set_le ?_) | (with_reducible refine size_drewN_le ?_) | go_size))⟩
  · have H3 : Hid (∀ W, Below w.heap.size w W → _) := fun W hW => wrong_bad s d l v ps W (prc_on h hW) (by omega) hG
    have H4 : Hid (∀ W, Below w.heap.size w W → _) := fun W hW => rwrong_bad s d l v ps W (prc_on h hW) (by omega) hG
    clear h hG
    subst hv
    generalize rtV s d l ps = R at *
    generalize rtE s d l ps = E at *
    generalize ps.length = n at *
    by_cases h1 : n ≤ 100
    · have d1 : decide ((100 : Int) < (n : Int)) = false := decide_eq_false (by omega)
      go_enter Try.func11, Try.ntmps11
      go_wp2_with fail
      refine calls_after (H1.out _ (by (repeat' (first | (with_reducible exact Below.refl _ _) | (with_reducible assumption) | (with_reducible refine Below.alloc ?_ ?_ _) | (with_reducible refine Below.drew ?_) | (with_reducible refine below_drewN ?_ _) | (with_reducible refine Below.setCell ?_ ?_ _) | (with_reducible refine below_after ?_ ?_ _) | (with_reducible refine below_set ?_) | (with_reducible refine After.size_le _ ?_) | (with_reducible refine size_alloc_le ?_) | (with_reducible refine size_set_le ?_) | (with_reducible refine size_drewN_le ?_) | go_size)))) ?_
      intro x1
      have hz_x1 := x1.out.size; (try simp only [World.size_alloc] at hz_x1); (try simp only [World.size_setCell] at hz_x1); (try simp only [World.size_alloc] at hz_x1); have k0_x1 : w.heap.size < x1.w.heap.size := (by omega); have j0_x1 : w.heap.size < x1.w.heap.size + 1 := (by omega)
      go_wp2_with fail
      refine calls_after2 (H2.out _ (by (repeat' (first | (with_reducible exact Below.refl _ _) | (with_reducible assumption) | (with_reducible refine Below.alloc ?_ ?_ _) | (with_reducible refine Below.drew ?_) | (with_reducible refine below_drewN ?_ _) | (with_reducible refine Below.setCell ?_ ?_ _) | (with_reducible refine below_after ?_ ?_ _) | (with_reducible refine below_set ?_) | (with_reducible refine After.size_le _ ?_) | (with_reducible refine size_alloc_le ?_) | (with_reducible refine size_set_le ?_) | (with_reducible refine size_drewN_le ?_) | go_size)))) ?_
      intro x2
      have hz_x2 := x2.out.size; (try simp only [World.size_alloc] at hz_x2); (try simp only [World.size_setCell] at hz_x2); (try simp only [World.size_alloc] at hz_x2); have k0_x2 : w.heap.size < x2.w.heap.size := (by omega); have j0_x2 : w.heap.size < x2.w.heap.size + 1 := (by omega)
      go_wp2_with fail
      refine calls_after2 (H3.out _ (by (repeat' (first | (with_reducible exact Below.refl _ _) | (with_reducible assumption) | (with_reducible refine Below.alloc ?_ ?_ _) | (with_reducible refine Below.drew ?_) | (with_reducible refine below_drewN ?_ _) | (with_reducible refine Below.setCell ?_ ?_ _) | (with_reducible refine below_after ?_ ?_ _) | (with_reducible refine below_set ?_) | (with_reducible refine After.size_le _ ?_) | (with_reducible refine size_alloc_le ?_) | (with_reducible refine size_set_le ?_) | (with_reducible refine size_drewN_le ?_) | go_size)))) ?_
      intro x3
      have hz_x3 := x3.out.size; (try simp only [World.size_alloc] at hz_x3); (try simp only [World.size_setCell] at hz_x3); (try simp only [World.size_alloc] at hz_x3); have k0_x3 : w.heap.size < x3.w.heap.size := (by omega); have j0_x3 : w.heap.size < x3.w.heap.size + 1 := (by omega)
      go_wp2_with fail
      refine calls_after2 (H4.out _ (by (repeat' (first | (with_reducible exact Below.refl _ _) | (with_reducible assumption) | (with_reducible refine Below.alloc ?_ ?_ _) | (with_reducible refine Below.drew ?_) | (with_reducible refine below_drewN ?_ _) | (with_reducible refine Below.setCell ?_ ?_ _) | (with_reducible refine below_after ?_ ?_ _) | (with_reducible refine below_set ?_) | (with_reducible refine After.size_le _ ?_) | (with_reducible refine size_alloc_le ?_) | (with_reducible refine size_set_le ?_) | (with_reducible refine size_drewN_le ?_) | go_size)))) ?_
      intro x4
      go_wp2_with fail
      refine calls_after2 (sameInts_nil _ _ _ _ _) ?_
      intro x5
      go_wp2_with fail
      refine calls_after2 (awake_any _) ?_
      intro x6
      go_wp2
      go_ret
      exact ⟨rfl, by (repeat' (first | (with_reducible exact Below.refl _ _) | (with_reducible assumption) | (with_reducible refine Below.alloc ?_ ?_ _) | (with_reducible refine Below.drew ?_) | (with_reducible refine below_drewN ?_ _) | (with_reducible refine Below.setCell ?_ ?_ _) | (with_reducible refine below_after ?_ ?_ _) | (with_reducible refine below_set ?_) | (with_reducible refine After.size_le _ ?_) | (with_reducible refine size_alloc_le ?_) | (with_reducible refine size_set_le ?_) | (with_reducible refine size_drewN_le ?_) | go_size))⟩
    · have d1 : decide ((100 : Int) < (n : Int)) = true := decide_eq_true (by omega)
      have d2 : decide ((n : Int) ≤ 500) = false := decide_eq_false (by omega)
      go_enter Try.func11, Try.ntmps11
      go_wp2_with fail
      refine calls_after (H1.out _ (by (repeat' (first | (with_reducible exact Below.refl _ _) | (with_reducible assumption) | (with_reducible refine Below.alloc ?_ ?_ _) | (with_reducible refine Below.drew ?_) | (with_reducible refine below_drewN ?_ _) | (with_reducible refine Below.setCell ?_ ?_ _) | (with_reducible refine below_after ?_ ?_ _) | (with_reducible refine below_set ?_) | (with_reducible refine After.size_le _ ?_) | (with_reducible refine size_alloc_le ?_) | (with_reducible refine size_set_le ?_) | (with_reducible refine size_drewN_le ?_) | go_size)))) ?_
      intro x1
      have hz_x1 := x1.out.size; (try simp only [World.size_alloc] at hz_x1); (try simp only [World.size_setCell] at hz_x1); (try simp only [World.size_alloc] at hz_x1); have k0_x1 : w.heap.size < x1.w.heap.size := (by omega); have j0_x1 : w.heap.size < x1.w.heap.size + 1 := (by omega)
      go_wp2_with fail
      refine calls_after2 (H2.out _ (by (repeat' (first | (with_reducible exact Below.refl _ _) | (with_reducible assumption) | (with_reducible refine Below.alloc ?_ ?_ _) | (with_reducible refine Below.drew ?_) | (with_reducible refine below_drewN ?_ _) | (with_reducible refine Below.setCell ?_ ?_ _) | (with_reducible refine below_after ?_ ?_ _) | (with_reducible refine below_set ?_) | (with_reducible refine After.size_le _ ?_) | (with_reducible refine size_alloc_le ?_) | (with_reducible refine size_set_le ?_) | (with_reducible refine size_drewN_le ?_) | go_size)))) ?_
      intro x2
      have hz_x2 := x2.out.size; (try simp only [World.size_alloc] at hz_x2); (try simp only [World.size_setCell] at hz_x2); (try simp only [World.size_alloc] at hz_x2); have k0_x2 : w.heap.size < x2.w.heap.size := (by omega); have j0_x2 : w.heap.size < x2.w.heap.size + 1 := (by omega)
      go_wp2_with fail
      refine calls_after2 (H3.out _ (by (repeat' (first | (with_reducible exact Below.refl _ _) | (with_reducible assumption) | (with_reducible refine Below.alloc ?_ ?_ _) | (with_reducible refine Below.drew ?_) | (with_reducible refine below_drewN ?_ _) | (with_reducible refine Below.setCell ?_ ?_ _) | (with_reducible refine below_after ?_ ?_ _) | (with_reducible refine below_set ?_) | (with_reducible refine After.size_le _ ?_) | (with_reducible refine size_alloc_le ?_) | (with_reducible refine size_set_le ?_) | (with_reducible refine size_drewN_le ?_) | go_size)))) ?_
      intro x3
      have hz_x3 := x3.out.size; (try simp only [World.size_alloc] at hz_x3); (try simp only [World.size_setCell] at hz_x3); (try simp only [World.size_alloc] at hz_x3); have k0_x3 : w.heap.size < x3.w.heap.size := (by omega); have j0_x3 : w.heap.size < x3.w.heap.size + 1 := (by omega)
      go_wp2_with fail
      refine calls_after2 (H4.out _ (by (repeat' (first | (with_reducible exact Below.refl _ _) | (with_reducible assumption) | (with_reducible refine Below.alloc ?_ ?_ _) | (with_reducible refine Below.drew ?_) | (with_reducible refine below_drewN ?_ _) | (with_reducible refine Below.setCell ?_ ?_ _) | (with_reducible refine below_after ?_ ?_ _) | (with_reducible refine below_set ?_) | (with_reducible refine After.size_le _ ?_) | (with_reducible refine size_alloc_le ?_) | (with_reducible refine size_set_le ?_) | (with_reducible refine size_drewN_le ?_) | go_size)))) ?_
      intro x4
      go_wp2_with fail
      refine calls_after2 (sameInts_nil _ _ _ _ _) ?_
      intro x5
      go_wp2_with fail
      refine calls_after2 (awake_any _) ?_
      intro x6
      go_wp2
      go_ret
      exact ⟨rfl, by (repeat' (first | (with_reducible exact Below.refl _ _) | (with_reducible assumption) | (with_reducible refine Below.alloc ?_ ?_ _) | (with_reducible refine Below.drew ?_) | (with_reducible refine below_drewN ?_ _) | (with_reducible refine Below.setCell ?_ ?_ _) | (with_reducible refine below_after ?_ ?_ _) | (with_reducible refine below_set ?_) | (with_reducible refine After.size_le _ ?_) | (with_reducible refine size_alloc_le ?_) | (with_reducible refine size_set_le ?_) | (with_reducible refine size_drewN_le ?_) | go_size))⟩
theorem ropeRetires_any (s d l : Int) (v : Value) (ps : List (Int × Int)) (w : World) (h : Prc w w.heap.size v ps) :
    Calls Try.prog 11 #[.agg #[.int .i64 s, .int .i64 d, .int .i64 l], v] w fun e w' => e = .returned (.bool true) ∧ Below w.heap.size w w' := by
  by_cases hl : ps.length ≤ 700 ∧ (ps.length ≤ 100 ∨ 500 < ps.length)
  · exact ropeRetires_ok s d l v ps w h hl.1 hl.2
  · obtain ⟨a, cap, rfl⟩ := prc_slice h
    exact ropeRetires_long s d l a _ cap w (by omega) (by omega)
end Go.Proofs.Ytciicijindanlaa
