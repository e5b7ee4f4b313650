/- A stack that cannot be divided so: the reference. -/
import Derived.Test.YtplhbklfaokjbaaDoorSplitp
namespace Go.Proofs.YtplhbklfaokjbaaDoor
open Go.RowKit
attribute [local go_sem] After.cell After.frozen After.lt After.le After.ne After.ne' After.set_eq After.size_set After.lt_add

set_option maxRecDepth 100000 in
set_option maxHeartbeats 2000000 in
theorem rsplit_zero (b off cap n : Nat) (f : Nat → Nat → Int) (k : Nat) (t : Int) (w : World) (hb : b < w.heap.size) (hc : CrCells w b off n f) (hn : n ≤ 60) (hk : k < n) (hO : OkC f k) (h1 : 1 ≤ t) (h2 : t ≤ f k 0 - 1) (h0 : loW f k t = 0)
    (ha : RCSay w (.slice (some ⟨b, off, none⟩) n cap) true) :
    Calls Tryd.prog 48 #[.slice (some ⟨b, off, none⟩) n cap, .int .i64 k, .int .i64 t] w fun x w' => x = .returned (.tuple #[.slice none 0 0, .int .i64 10]) ∧ Below w.heap.size w w' := by
  have HA : Hid (∀ W, Below w.heap.size w W → _) := ha
  have HC := Lib.hid (fun W (hW : Below w.heap.size w W) => hc.on hb hW)
  have HB1 := Lib.hid (within_any (k : Nat) 0 ((n : Int) - 1))
  rw [decide_eq_true (by unfold Btw; omega)] at HB1
  have HB2 := Lib.hid (within_any t 1 (f k 0 - 1))
  rw [decide_eq_true (by unfold Btw; omega)] at HB2
  obtain ⟨g1, g2, g3, g4⟩ := loW_bd hO h1 h2
  obtain ⟨L, hL⟩ : ∃ L, f k 3 * t / f k 0 = L := ⟨_, rfl⟩
  rw [show loW f k t = L from hL] at g1 g2 h0
  have L0 : (L == 0) = true := by simpa using h0
  have hO' := hO
  unfold OkC InCr at hO'
  obtain ⟨c0, c1, c2, c3, c4, c5⟩ := hc k hk
  have hk' : (k : Int) < (n : Int) := by omega
  clear ha hc
  go_enter Tryd.func48, Tryd.ntmps48
  (go_wp2_with fail); refine calls_after (HA.out _ (by (repeat' (first | (with_reducible exact Below.refl _ _) | (with_reducible assumption) | (with_reducible refine Below.alloc ?_ ?_ _) | (with_reducible refine Below.drew ?_) | (with_reducible refine below_drewN ?_ _) | (with_reducible refine Below.setCell ?_ ?_ _) | (with_reducible refine below_after ?_ ?_ _) | (with_reducible refine below_set ?_) | (with_reducible refine After.size_le _ ?_) | (with_reducible refine size_alloc_le ?_) | (with_reducible refine size_set_le ?_) | (with_reducible refine size_drewN_le ?_) | go_size)))) ?_; intro x1; have hz_x1 := x1.out.size; (try simp only [World.size_alloc] at hz_x1); (try simp only [World.size_setCell] at hz_x1); (try simp only [World.size_alloc] at hz_x1); have k0_x1 : b < x1.w.heap.size := (by omega); have j0_x1 : b < x1.w.heap.size + 1 := (by omega)
  (go_wp2_with fail); refine calls_after2 (HB1.out _) ?_; intro x2; have hz_x2 := x2.out.size; (try simp only [World.size_alloc] at hz_x2); (try simp only [World.size_setCell] at hz_x2); (try simp only [World.size_alloc] at hz_x2); have k0_x2 : b < x2.w.heap.size := (by omega); have j0_x2 : b < x2.w.heap.size + 1 := (by omega)
  (go_wp2_with fail); refine calls_after2 (HB2.out _) ?_; intro x3; have hz_x3 := x3.out.size; (try simp only [World.size_alloc] at hz_x3); (try simp only [World.size_setCell] at hz_x3); (try simp only [World.size_alloc] at hz_x3); have k0_x3 : b < x3.w.heap.size := (by omega); have j0_x3 : b < x3.w.heap.size + 1 := (by omega)
  go_upto_region 5 with (fail)
  go_cut [8, 9] (fun s u wx => ∃ bl bu, s = .pointer (some ⟨bl, 0, none⟩) ∧ u = .pointer (some ⟨bu, 0, none⟩) ∧ TwoB w wx bl bu (f k) (f k))
  case first =>
    clear g1 g2 g3 g4 h0 h1 h2 HA HC HB1 HB2
    go_region
    all_goals
      go_wp2
      go_meet
      case rel => exact ⟨_, _, rfl, rfl, by first | omega | (simp; omega), by first | omega | (simp; omega), by first | omega | (simp; done) | (simp; omega),
        fill1 (by first | (simp; done) | (simp; omega)) (by intro o; simp [go_sem]) (by simp [go_sem]) (by simp [go_sem]) (by simp [go_sem]) (by simp [go_sem]) (by simp [go_sem]) (by simp [go_sem]),
        fill1 (by first | (simp; done) | (simp; omega)) (by intro o; simp [go_sem]) (by simp [go_sem]) (by simp [go_sem]) (by simp [go_sem]) (by simp [go_sem]) (by simp [go_sem]) (by simp [go_sem]), by (repeat' (first | (with_reducible exact Below.refl _ _) | (with_reducible assumption) | (with_reducible refine Below.alloc ?_ ?_ _) | (with_reducible refine Below.drew ?_) | (with_reducible refine below_drewN ?_ _) | (with_reducible refine Below.setCell ?_ ?_ _) | (with_reducible refine below_after ?_ ?_ _) | (with_reducible refine below_set ?_) | (with_reducible refine After.size_le _ ?_) | (with_reducible refine size_alloc_le ?_) | (with_reducible refine size_set_le ?_) | (with_reducible refine size_drewN_le ?_) | go_size))⟩
  case rest =>
    obtain ⟨bl, bu, rfl, rfl, q1, q2, q3, q4, q5, q6⟩ := hcut
    have q4l := q4.lt
    have q5l := q5.lt
    obtain ⟨r0, r1, r2, r3, r4, r5⟩ := q4.six
    obtain ⟨s0, s1, s2, s3, s4, s5⟩ := q5.six
    have fl := q4.free
    have fu := q5.free
    have q3' := Ne.symm q3
    have Q4 := Lib.hid q4
    have Q5 := Lib.hid q5
    have Q6 := Lib.hid q6
    clear q4 q5 q6
    go_wp2_with fail
    go_region
    go_wp2_with fail
    go_region
    go_wp2_with fail
    go_returns
    exact ⟨rfl, by
      refine Below.drew (Below.drew ?_)
      exact (((Q6.out.setCell (p := ⟨bl, _, none⟩) q1 _).setCell (p := ⟨bl, _, none⟩) q1 _).setCell (p := ⟨bu, _, none⟩) q2 _).setCell (p := ⟨bu, _, none⟩) q2 _⟩
set_option maxRecDepth 100000 in
set_option maxHeartbeats 2000000 in
theorem rsplit_full (b off cap n : Nat) (f : Nat → Nat → Int) (k : Nat) (t : Int) (w : World) (hb : b < w.heap.size) (hc : CrCells w b off n f) (hn : n ≤ 60) (hk : k < n) (hO : OkC f k) (h1 : 1 ≤ t) (h2 : t ≤ f k 0 - 1) (h0 : loW f k t ≠ 0) (h60 : n = 60)
    (ha : RCSay w (.slice (some ⟨b, off, none⟩) n cap) true) :
    Calls Tryd.prog 48 #[.slice (some ⟨b, off, none⟩) n cap, .int .i64 k, .int .i64 t] w fun x w' => x = .returned (.tuple #[.slice none 0 0, .int .i64 4]) ∧ Below w.heap.size w w' := by
  have HA : Hid (∀ W, Below w.heap.size w W → _) := ha
  have HC := Lib.hid (fun W (hW : Below w.heap.size w W) => hc.on hb hW)
  have HB1 := Lib.hid (within_any (k : Nat) 0 ((n : Int) - 1))
  rw [decide_eq_true (by unfold Btw; omega)] at HB1
  have HB2 := Lib.hid (within_any t 1 (f k 0 - 1))
  rw [decide_eq_true (by unfold Btw; omega)] at HB2
  obtain ⟨g1, g2, g3, g4⟩ := loW_bd hO h1 h2
  obtain ⟨L, hL⟩ : ∃ L, f k 3 * t / f k 0 = L := ⟨_, rfl⟩
  rw [show loW f k t = L from hL] at g1 g2 h0
  have L0 : (L == 0) = false := by simpa using h0
  have n60 : ((n : Int) == 60) = true := by rw [beq_iff_eq]; omega
  clear h60
  have hO' := hO
  unfold OkC InCr at hO'
  obtain ⟨c0, c1, c2, c3, c4, c5⟩ := hc k hk
  have hk' : (k : Int) < (n : Int) := by omega
  clear ha hc
  go_enter Tryd.func48, Tryd.ntmps48
  (go_wp2_with fail); refine calls_after (HA.out _ (by (repeat' (first | (with_reducible exact Below.refl _ _) | (with_reducible assumption) | (with_reducible refine Below.alloc ?_ ?_ _) | (with_reducible refine Below.drew ?_) | (with_reducible refine below_drewN ?_ _) | (with_reducible refine Below.setCell ?_ ?_ _) | (with_reducible refine below_after ?_ ?_ _) | (with_reducible refine below_set ?_) | (with_reducible refine After.size_le _ ?_) | (with_reducible refine size_alloc_le ?_) | (with_reducible refine size_set_le ?_) | (with_reducible refine size_drewN_le ?_) | go_size)))) ?_; intro x1; have hz_x1 := x1.out.size; (try simp only [World.size_alloc] at hz_x1); (try simp only [World.size_setCell] at hz_x1); (try simp only [World.size_alloc] at hz_x1); have k0_x1 : b < x1.w.heap.size := (by omega); have j0_x1 : b < x1.w.heap.size + 1 := (by omega)
  (go_wp2_with fail); refine calls_after2 (HB1.out _) ?_; intro x2; have hz_x2 := x2.out.size; (try simp only [World.size_alloc] at hz_x2); (try simp only [World.size_setCell] at hz_x2); (try simp only [World.size_alloc] at hz_x2); have k0_x2 : b < x2.w.heap.size := (by omega); have j0_x2 : b < x2.w.heap.size + 1 := (by omega)
  (go_wp2_with fail); refine calls_after2 (HB2.out _) ?_; intro x3; have hz_x3 := x3.out.size; (try simp only [World.size_alloc] at hz_x3); (try simp only [World.size_setCell] at hz_x3); (try simp only [World.size_alloc] at hz_x3); have k0_x3 : b < x3.w.heap.size := (by omega); have j0_x3 : b < x3.w.heap.size + 1 := (by omega)
  go_upto_region 5 with (fail)
  go_cut [8, 9] (fun s u wx => ∃ bl bu, s = .pointer (some ⟨bl, 0, none⟩) ∧ u = .pointer (some ⟨bu, 0, none⟩) ∧ TwoB w wx bl bu (f k) (f k))
  case first =>
    clear g1 g2 g3 g4 h0 h1 h2 HA HC HB1 HB2
    go_region
    all_goals
      go_wp2
      go_meet
      case rel => exact ⟨_, _, rfl, rfl, by first | omega | (simp; omega), by first | omega | (simp; omega), by first | omega | (simp; done) | (simp; omega),
        fill1 (by first | (simp; done) | (simp; omega)) (by intro o; simp [go_sem]) (by simp [go_sem]) (by simp [go_sem]) (by simp [go_sem]) (by simp [go_sem]) (by simp [go_sem]) (by simp [go_sem]),
        fill1 (by first | (simp; done) | (simp; omega)) (by intro o; simp [go_sem]) (by simp [go_sem]) (by simp [go_sem]) (by simp [go_sem]) (by simp [go_sem]) (by simp [go_sem]) (by simp [go_sem]), by (repeat' (first | (with_reducible exact Below.refl _ _) | (with_reducible assumption) | (with_reducible refine Below.alloc ?_ ?_ _) | (with_reducible refine Below.drew ?_) | (with_reducible refine below_drewN ?_ _) | (with_reducible refine Below.setCell ?_ ?_ _) | (with_reducible refine below_after ?_ ?_ _) | (with_reducible refine below_set ?_) | (with_reducible refine After.size_le _ ?_) | (with_reducible refine size_alloc_le ?_) | (with_reducible refine size_set_le ?_) | (with_reducible refine size_drewN_le ?_) | go_size))⟩
  case rest =>
    obtain ⟨bl, bu, rfl, rfl, q1, q2, q3, q4, q5, q6⟩ := hcut
    have q4l := q4.lt
    have q5l := q5.lt
    obtain ⟨r0, r1, r2, r3, r4, r5⟩ := q4.six
    obtain ⟨s0, s1, s2, s3, s4, s5⟩ := q5.six
    have fl := q4.free
    have fu := q5.free
    have q3' := Ne.symm q3
    have Q4 := Lib.hid q4
    have Q5 := Lib.hid q5
    have Q6 := Lib.hid q6
    clear q4 q5 q6
    go_wp2_with fail
    go_region
    go_wp2_with fail
    go_region
    go_wp2_with fail
    go_returns
    exact ⟨rfl, by
      refine Below.drew (Below.drew ?_)
      exact (((Q6.out.setCell (p := ⟨bl, _, none⟩) q1 _).setCell (p := ⟨bl, _, none⟩) q1 _).setCell (p := ⟨bu, _, none⟩) q2 _).setCell (p := ⟨bu, _, none⟩) q2 _⟩
set_option maxRecDepth 100000 in
set_option maxHeartbeats 1000000 in
theorem rsplit_bad (v : Value) (k t : Int) (w : World) (ha : RCSay w v false) :
    Calls Tryd.prog 48 #[v, .int .i64 k, .int .i64 t] w fun x w' => x = .returned (.tuple #[.slice none 0 0, .int .i64 1]) ∧ Below w.heap.size w w' := by
  have HA : Hid (∀ W, Below w.heap.size w W → _) := ha
  clear ha
  go_enter Tryd.func48, Tryd.ntmps48
  (go_wp2_with fail); refine calls_after (HA.out _ (by (repeat' (first | (with_reducible exact Below.refl _ _) | (with_reducible assumption) | (with_reducible refine Below.alloc ?_ ?_ _) | (with_reducible refine Below.drew ?_) | (with_reducible refine below_drewN ?_ _) | (with_reducible refine Below.setCell ?_ ?_ _) | (with_reducible refine below_after ?_ ?_ _) | (with_reducible refine below_set ?_) | (with_reducible refine After.size_le _ ?_) | (with_reducible refine size_alloc_le ?_) | (with_reducible refine size_set_le ?_) | (with_reducible refine size_drewN_le ?_) | go_size)))) ?_; intro x1
  go_wp2
  go_returns
  exact ⟨rfl, by (repeat' (first | (with_reducible exact Below.refl _ _) | (with_reducible assumption) | (with_reducible refine Below.alloc ?_ ?_ _) | (with_reducible refine Below.drew ?_) | (with_reducible refine below_drewN ?_ _) | (with_reducible refine Below.setCell ?_ ?_ _) | (with_reducible refine below_after ?_ ?_ _) | (with_reducible refine below_set ?_) | (with_reducible refine After.size_le _ ?_) | (with_reducible refine size_alloc_le ?_) | (with_reducible refine size_set_le ?_) | (with_reducible refine size_drewN_le ?_) | go_size))⟩
set_option maxRecDepth 100000 in
set_option maxHeartbeats 1000000 in
theorem rsplit_far (a : Option Addr) (n cap : Nat) (k t : Int) (w : World) (hn : n ≤ 60) (h1 : 1 ≤ n) (hk : ¬ (0 ≤ k ∧ k < n)) (ha : RCSay w (.slice a n cap) true) :
    Calls Tryd.prog 48 #[.slice a n cap, .int .i64 k, .int .i64 t] w fun x w' => x = .returned (.tuple #[.slice none 0 0, .int .i64 7]) ∧ Below w.heap.size w w' := by
  have HA : Hid (∀ W, Below w.heap.size w W → _) := ha
  have HB1 := Lib.hid (within_any k 0 ((n : Int) - 1))
  rw [decide_eq_false (by unfold Btw; omega)] at HB1
  clear ha hk
  go_enter Tryd.func48, Tryd.ntmps48
  (go_wp2_with fail); refine calls_after (HA.out _ (by (repeat' (first | (with_reducible exact Below.refl _ _) | (with_reducible assumption) | (with_reducible refine Below.alloc ?_ ?_ _) | (with_reducible refine Below.drew ?_) | (with_reducible refine below_drewN ?_ _) | (with_reducible refine Below.setCell ?_ ?_ _) | (with_reducible refine below_after ?_ ?_ _) | (with_reducible refine below_set ?_) | (with_reducible refine After.size_le _ ?_) | (with_reducible refine size_alloc_le ?_) | (with_reducible refine size_set_le ?_) | (with_reducible refine size_drewN_le ?_) | go_size)))) ?_; intro x1
  (go_wp2_with fail); refine calls_after2 (HB1.out _) ?_; intro x2
  go_wp2
  go_returns
  exact ⟨rfl, by (repeat' (first | (with_reducible exact Below.refl _ _) | (with_reducible assumption) | (with_reducible refine Below.alloc ?_ ?_ _) | (with_reducible refine Below.drew ?_) | (with_reducible refine below_drewN ?_ _) | (with_reducible refine Below.setCell ?_ ?_ _) | (with_reducible refine below_after ?_ ?_ _) | (with_reducible refine below_set ?_) | (with_reducible refine After.size_le _ ?_) | (with_reducible refine size_alloc_le ?_) | (with_reducible refine size_set_le ?_) | (with_reducible refine size_drewN_le ?_) | go_size))⟩
set_option maxRecDepth 100000 in
set_option maxHeartbeats 1000000 in
theorem rsplit_off (b off cap n : Nat) (f : Nat → Nat → Int) (k : Nat) (t : Int) (w : World) (hb : b < w.heap.size) (hn : n ≤ 60) (hc : CrCells w b off n f) (hk : k < n) (hO : OkC f k) (ht : ¬ (1 ≤ t ∧ t ≤ f k 0 - 1)) (ha : RCSay w (.slice (some ⟨b, off, none⟩) n cap) true) :
    Calls Tryd.prog 48 #[.slice (some ⟨b, off, none⟩) n cap, .int .i64 k, .int .i64 t] w fun x w' => x = .returned (.tuple #[.slice none 0 0, .int .i64 7]) ∧ Below w.heap.size w w' := by
  have HA : Hid (∀ W, Below w.heap.size w W → _) := ha
  have HB1 := Lib.hid (within_any (k : Nat) 0 ((n : Int) - 1))
  rw [decide_eq_true (by unfold Btw; omega)] at HB1
  have HB2 := Lib.hid (within_any t 1 (f k 0 - 1))
  rw [decide_eq_false (by unfold Btw; omega)] at HB2
  unfold OkC InCr at hO
  obtain ⟨c0, c1, c2, c3, c4, c5⟩ := hc k hk
  have hk' : (k : Int) < (n : Int) := by omega
  clear ha hc ht
  go_enter Tryd.func48, Tryd.ntmps48
  (go_wp2_with fail); refine calls_after (HA.out _ (by (repeat' (first | (with_reducible exact Below.refl _ _) | (with_reducible assumption) | (with_reducible refine Below.alloc ?_ ?_ _) | (with_reducible refine Below.drew ?_) | (with_reducible refine below_drewN ?_ _) | (with_reducible refine Below.setCell ?_ ?_ _) | (with_reducible refine below_after ?_ ?_ _) | (with_reducible refine below_set ?_) | (with_reducible refine After.size_le _ ?_) | (with_reducible refine size_alloc_le ?_) | (with_reducible refine size_set_le ?_) | (with_reducible refine size_drewN_le ?_) | go_size)))) ?_; intro x1; have hz_x1 := x1.out.size; (try simp only [World.size_alloc] at hz_x1); (try simp only [World.size_setCell] at hz_x1); (try simp only [World.size_alloc] at hz_x1); have k0_x1 : b < x1.w.heap.size := (by omega); have j0_x1 : b < x1.w.heap.size + 1 := (by omega)
  (go_wp2_with fail); refine calls_after2 (HB1.out _) ?_; intro x2; have hz_x2 := x2.out.size; (try simp only [World.size_alloc] at hz_x2); (try simp only [World.size_setCell] at hz_x2); (try simp only [World.size_alloc] at hz_x2); have k0_x2 : b < x2.w.heap.size := (by omega); have j0_x2 : b < x2.w.heap.size + 1 := (by omega)
  (go_wp2_with fail); refine calls_after2 (HB2.out _) ?_; intro x3; have hz_x3 := x3.out.size; (try simp only [World.size_alloc] at hz_x3); (try simp only [World.size_setCell] at hz_x3); (try simp only [World.size_alloc] at hz_x3); have k0_x3 : b < x3.w.heap.size := (by omega); have j0_x3 : b < x3.w.heap.size + 1 := (by omega)
  go_wp2
  go_returns
  exact ⟨rfl, by (repeat' (first | (with_reducible exact Below.refl _ _) | (with_reducible assumption) | (with_reducible refine Below.alloc ?_ ?_ _) | (with_reducible refine Below.drew ?_) | (with_reducible refine below_drewN ?_ _) | (with_reducible refine Below.setCell ?_ ?_ _) | (with_reducible refine below_after ?_ ?_ _) | (with_reducible refine below_set ?_) | (with_reducible refine After.size_le _ ?_) | (with_reducible refine size_alloc_le ?_) | (with_reducible refine size_set_le ?_) | (with_reducible refine size_drewN_le ?_) | go_size))⟩
end Go.Proofs.YtplhbklfaokjbaaDoor
