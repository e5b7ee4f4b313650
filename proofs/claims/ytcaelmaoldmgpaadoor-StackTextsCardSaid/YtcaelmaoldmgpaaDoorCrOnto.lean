/- Stage 2: a bed put onto a course. Stage 2: Height. Stage 2: a stack in memory; Valid. -/
import Derived.Test.YtcaelmaoldmgpaaDoorCrCrt
namespace Go.Proofs.YtcaelmaoldmgpaaDoor.Cr
open Go.Proofs.YtcaelmaoldmgpaaDoor
open Go.RowKit
attribute [local go_sem] After.cell After.frozen After.lt After.le After.ne After.ne' After.set_eq After.size_set After.lt_add

/-- The n courses f (height, out, in, weight, east, north) lie from a block's cell off on. -/
def CrCells (W : World) (b off n : Nat) (f : Nat → Nat → Int) : Prop :=
  ∀ i, i < n → W.cell? ⟨b, off + i * 6, none⟩ = some (.int .i64 (f i 0)) ∧ W.cell? ⟨b, off + i * 6 + 1, none⟩ = some (.int .i64 (f i 1)) ∧ W.cell? ⟨b, off + i * 6 + 2, none⟩ = some (.int .i64 (f i 2)) ∧
    W.cell? ⟨b, off + i * 6 + 3, none⟩ = some (.int .i64 (f i 3)) ∧ W.cell? ⟨b, off + i * 6 + 4, none⟩ = some (.int .i64 (f i 4)) ∧ W.cell? ⟨b, off + i * 6 + 5, none⟩ = some (.int .i64 (f i 5))
theorem CrCells.on {w W : World} {b off n : Nat} {f : Nat → Nat → Int} (h : CrCells w b off n f) (hb : b < w.heap.size) (hW : Below w.heap.size w W) : CrCells W b off n f := fun i hi => by
  obtain ⟨h0, h1, h2, h3, h4, h5⟩ := h i hi
  exact ⟨(hW.cell (p := ⟨b, _, none⟩) hb).trans h0, (hW.cell (p := ⟨b, _, none⟩) hb).trans h1, (hW.cell (p := ⟨b, _, none⟩) hb).trans h2, (hW.cell (p := ⟨b, _, none⟩) hb).trans h3, (hW.cell (p := ⟨b, _, none⟩) hb).trans h4, (hW.cell (p := ⟨b, _, none⟩) hb).trans h5⟩
def OkC (f : Nat → Nat → Int) (k : Nat) : Prop := InCr (f k 0) (f k 1) (f k 2) (f k 3) (f k 4) (f k 5)
instance (f : Nat → Nat → Int) (k : Nat) : Decidable (OkC f k) := by unfold OkC; infer_instance
def GoodC (n : Nat) (f : Nat → Nat → Int) : Prop := 1 ≤ n ∧ n ≤ 60 ∧ ∀ k, k < n → OkC f k
instance (n : Nat) (f : Nat → Nat → Int) : Decidable (GoodC n f) := by unfold GoodC; infer_instance

set_option maxRecDepth 100000 in
set_option maxHeartbeats 1000000 in
theorem valid_any (b off cap n : Nat) (f : Nat → Nat → Int) (w : World) (hb : b < w.heap.size) (hlen : n ≤ 1000) (hc : CrCells w b off n f) :
    Calls Tryd.prog 25 #[.slice (some ⟨b, off, none⟩) n cap] w fun e w' => e = .returned (.bool (decide (GoodC n f))) ∧ Below w.heap.size w w' := by
  have HC := Lib.hid hc
  clear hc
  by_cases hn : 1 ≤ n ∧ n ≤ 60
  · obtain ⟨n1, n2⟩ := hn
    have HB := Lib.hid (fun w => between_any n 1 60 w)
    rw [decide_eq_true (by unfold Btw; omega)] at HB
    go_enter Tryd.func25, Tryd.ntmps25
    (go_wp2_with fail); refine calls_after (HB.out _) ?_; intro x0
    go_wp2
    go_loopw [2, 11] (fun _ i wr => ∃ k : Nat, k ≤ n ∧ i = .int .i64 k ∧ (∀ j, j < k → OkC f j) ∧ ∃ x : After w, wr = x.w) (fun _ i _ => n - (intOf i).toNat)
    case atStart => exact ⟨0, by omega, rfl, fun j hj => absurd hj (by omega), ⟨_, x0.out⟩, rfl⟩
    case round =>
      obtain ⟨k, hk, rfl, ho, x, rfl⟩ := hrel
      have hbx := x.size_lt hb
      have HO := Lib.hid ho
      clear ho
      by_cases hlt : k < n
      · obtain ⟨c0, c1, c2, c3, c4, c5⟩ := HC.out k hlt
        have HV := Lib.hid (fun W => validCourse_any (f k 0) (f k 1) (f k 2) (f k 3) (f k 4) (f k 5) W)
        by_cases hF : OkC f k
        · have HF := Lib.hid hF
          unfold OkC at hF
          rw [decide_eq_true hF] at HV
          clear hF
          (go_wp2_with fail); refine calls_after (HV.out _) ?_; intro y
          go_wp2
          go_roundw
          case rel => exact ⟨k + 1, by omega, by go_num, fun j hj => by
            rcases Nat.lt_or_ge j k with hj' | hj'
            · exact HO.out j hj'
            · obtain rfl : j = k := by omega
              exact HF.out, ⟨_, below_after (x.out.alloc x.out.size _) (by simp; exact Nat.le_succ_of_le x.out.size) y⟩, rfl⟩
          case measure => simp [intOf]; omega
        · have HF := Lib.hid hF
          unfold OkC at hF
          rw [decide_eq_false hF] at HV
          clear hF
          (go_wp2_with fail); refine calls_after (HV.out _) ?_; intro y
          go_wp2
          go_ret
          exact ⟨ret_dec (by simp; exact fun hG => HF.out (hG.2.2 k hlt)), by (repeat' (first | (with_reducible exact Below.refl _ _) | (with_reducible assumption) | (with_reducible refine Below.alloc ?_ ?_ _) | (with_reducible refine Below.drew ?_) | (with_reducible refine below_drewN ?_ _) | (with_reducible refine Below.setCell ?_ ?_ _) | (with_reducible refine below_after ?_ ?_ _) | (with_reducible refine below_set ?_) | (with_reducible refine After.size_le _ ?_) | (with_reducible refine size_alloc_le ?_) | (with_reducible refine size_set_le ?_) | (with_reducible refine size_drewN_le ?_) | go_size))⟩
      · obtain rfl : k = n := by omega
        go_wp2
        go_ret
        exact ⟨ret_dec ⟨fun _ => ⟨n1, n2, HO.out⟩, fun _ => by simp⟩, by (repeat' (first | (with_reducible exact Below.refl _ _) | (with_reducible assumption) | (with_reducible refine Below.alloc ?_ ?_ _) | (with_reducible refine Below.drew ?_) | (with_reducible refine below_drewN ?_ _) | (with_reducible refine Below.setCell ?_ ?_ _) | (with_reducible refine below_after ?_ ?_ _) | (with_reducible refine below_set ?_) | (with_reducible refine After.size_le _ ?_) | (with_reducible refine size_alloc_le ?_) | (with_reducible refine size_set_le ?_) | (with_reducible refine size_drewN_le ?_) | go_size))⟩
  · have hno : ¬ GoodC n f := fun h => hn ⟨h.1, h.2.1⟩
    have HB := Lib.hid (fun w => between_any n 1 60 w)
    rw [decide_eq_false (by unfold Btw; omega)] at HB
    rw [decide_eq_false hno]
    go_enter Tryd.func25, Tryd.ntmps25
    (go_wp2_with fail); refine calls_after (HB.out _) ?_; intro x0
    go_wp2
    go_ret
    exact ⟨rfl, by (repeat' (first | (with_reducible exact Below.refl _ _) | (with_reducible assumption) | (with_reducible refine Below.alloc ?_ ?_ _) | (with_reducible refine Below.drew ?_) | (with_reducible refine below_drewN ?_ _) | (with_reducible refine Below.setCell ?_ ?_ _) | (with_reducible refine below_after ?_ ?_ _) | (with_reducible refine below_set ?_) | (with_reducible refine After.size_le _ ?_) | (with_reducible refine size_alloc_le ?_) | (with_reducible refine size_set_le ?_) | (with_reducible refine size_drewN_le ?_) | go_size))⟩

set_option maxRecDepth 100000 in
set_option maxHeartbeats 1000000 in
theorem rvalid_any (b off cap n : Nat) (f : Nat → Nat → Int) (w : World) (hb : b < w.heap.size) (hlen : n ≤ 1000) (hc : CrCells w b off n f) :
    Calls Tryd.prog 24 #[.slice (some ⟨b, off, none⟩) n cap] w fun e w' => e = .returned (.bool (decide (GoodC n f))) ∧ Below w.heap.size w w' := by
  have HC := Lib.hid hc
  clear hc
  have HB := Lib.hid (fun w => within_any n 1 60 w)
  go_enter Tryd.func24, Tryd.ntmps24
  go_wp2
  go_loopw [3] (fun i wr => ∃ k : Nat, k ≤ n ∧ i = .int .i64 k ∧ (∀ j, j < k → OkC f j) ∧ ∃ x : After w, wr = x.w) (fun i _ => n - (intOf i).toNat)
  case atStart => exact ⟨0, by omega, rfl, fun j hj => absurd hj (by omega), ⟨w, by (repeat' (first | (with_reducible exact Below.refl _ _) | (with_reducible assumption) | (with_reducible refine Below.alloc ?_ ?_ _) | (with_reducible refine Below.drew ?_) | (with_reducible refine below_drewN ?_ _) | (with_reducible refine Below.setCell ?_ ?_ _) | (with_reducible refine below_after ?_ ?_ _) | (with_reducible refine below_set ?_) | (with_reducible refine After.size_le _ ?_) | (with_reducible refine size_alloc_le ?_) | (with_reducible refine size_set_le ?_) | (with_reducible refine size_drewN_le ?_) | go_size))⟩, rfl⟩
  case round =>
    obtain ⟨k, hk, rfl, ho, x, rfl⟩ := hrel
    have hbx := x.size_lt hb
    have HO := Lib.hid ho
    clear ho
    by_cases hlt : k < n
    · obtain ⟨c0, c1, c2, c3, c4, c5⟩ := HC.out k hlt
      have HV := Lib.hid (fun W => rvalidCourse_any (f k 0) (f k 1) (f k 2) (f k 3) (f k 4) (f k 5) W)
      by_cases hF : OkC f k
      · have HF := Lib.hid hF
        unfold OkC at hF
        rw [decide_eq_true hF] at HV
        clear hF
        (go_wp2_with fail); refine calls_after2 (HV.out _) ?_; intro y
        go_wp2
        go_roundw
        case rel => exact ⟨k + 1, by omega, by go_num, fun j hj => by
          rcases Nat.lt_or_ge j k with hj' | hj'
          · exact HO.out j hj'
          · obtain rfl : j = k := by omega
            exact HF.out, ⟨_, y.out⟩, rfl⟩
        case measure => simp [intOf]; omega
      · have HF := Lib.hid hF
        unfold OkC at hF
        rw [decide_eq_false hF] at HV
        clear hF
        (go_wp2_with fail); refine calls_after2 (HV.out _) ?_; intro y
        go_wp2
        go_ret
        exact ⟨ret_dec (by simp; exact fun hG => HF.out (hG.2.2 k hlt)), by (repeat' (first | (with_reducible exact Below.refl _ _) | (with_reducible assumption) | (with_reducible refine Below.alloc ?_ ?_ _) | (with_reducible refine Below.drew ?_) | (with_reducible refine below_drewN ?_ _) | (with_reducible refine Below.setCell ?_ ?_ _) | (with_reducible refine below_after ?_ ?_ _) | (with_reducible refine below_set ?_) | (with_reducible refine After.size_le _ ?_) | (with_reducible refine size_alloc_le ?_) | (with_reducible refine size_set_le ?_) | (with_reducible refine size_drewN_le ?_) | go_size))⟩
    · obtain rfl : k = n := by omega
      (go_wp2_with fail); refine calls_after2 (HB.out _) ?_; intro y
      go_wp2
      go_ret
      exact ⟨ret_dec (decide_eq_true_iff.trans ⟨fun h => ⟨by have := h.1; omega, by have := h.2; omega, HO.out⟩, fun h => ⟨by have := h.1; omega, by have := h.2.1; omega⟩⟩), by (repeat' (first | (with_reducible exact Below.refl _ _) | (with_reducible assumption) | (with_reducible refine Below.alloc ?_ ?_ _) | (with_reducible refine Below.drew ?_) | (with_reducible refine below_drewN ?_ _) | (with_reducible refine Below.setCell ?_ ?_ _) | (with_reducible refine below_after ?_ ?_ _) | (with_reducible refine below_set ?_) | (with_reducible refine After.size_le _ ?_) | (with_reducible refine size_alloc_le ?_) | (with_reducible refine size_set_le ?_) | (with_reducible refine size_drewN_le ?_) | go_size))⟩
end Go.Proofs.YtcaelmaoldmgpaaDoor.Cr
namespace Go.Proofs.YtcaelmaoldmgpaaDoor.Cr
open Go.Proofs.YtcaelmaoldmgpaaDoor
open Go.RowKit
attribute [local go_sem] After.cell After.frozen After.lt After.le After.ne After.ne' After.set_eq After.size_set After.lt_add

/-- What Valid answers of a value in every later world. -/
def CSay (w : World) (v : Value) (b : Bool) : Prop := ∀ W, Below w.heap.size w W → Calls Tryd.prog 25 #[v] W fun e w' => e = .returned (.bool b) ∧ Below W.heap.size W w'
def RCSay (w : World) (v : Value) (b : Bool) : Prop := ∀ W, Below w.heap.size w W → Calls Tryd.prog 24 #[v] W fun e w' => e = .returned (.bool b) ∧ Below W.heap.size W w'
def sumTo (g : Nat → Int) : Nat → Int
  | 0 => 0
  | k + 1 => sumTo g k + g k
theorem sumTo_bd {g : Nat → Int} {A : Int} (hA : 0 ≤ A) : ∀ k : Nat, (∀ i, i < k → -A ≤ g i ∧ g i ≤ A) → k ≤ 60 → -(60 * A) ≤ sumTo g k ∧ sumTo g k ≤ 60 * A := by
  have key : ∀ k : Nat, (∀ i, i < k → -A ≤ g i ∧ g i ≤ A) → -(k * A) ≤ sumTo g k ∧ sumTo g k ≤ k * A := by
    intro k
    induction k with
    | zero => intro _; simp [sumTo]
    | succ k ih =>
      intro h
      have h1 := ih (fun i hi => h i (by omega))
      have h2 := h k (by omega)
      unfold sumTo
      have e : ((k + 1 : Nat) : Int) * A = k * A + A := by rw [Int.natCast_add, Int.add_mul]; simp
      rw [e]
      generalize (k : Int) * A = m at *
      omega
  intro k h hk
  have h1 := key k h
  have h2 : (k : Int) * A ≤ 60 * A := Int.mul_le_mul_of_nonneg_right (by omega) hA
  omega

end Go.Proofs.YtcaelmaoldmgpaaDoor.Cr
namespace Go.Proofs.YtcaelmaoldmgpaaDoor.Cr
open Go.Proofs.YtcaelmaoldmgpaaDoor
open Go.RowKit
attribute [local go_sem] After.cell After.frozen After.lt After.le After.ne After.ne' After.set_eq After.size_set After.lt_add

/-- A bed as the program holds it: its course's index, the course's six numbers, weight, east, north, face, push. -/
structure BedV where
  ix : Int
  c : Nat → Int
  wt : Int
  ea : Int
  no : Int
  fa : Int
  pu : Int
def BedV.val (b : BedV) : Value := .agg #[.int .i64 b.ix, .int .i64 (b.c 0), .int .i64 (b.c 1), .int .i64 (b.c 2), .int .i64 (b.c 3), .int .i64 (b.c 4), .int .i64 (b.c 5), .int .i64 b.wt, .int .i64 b.ea, .int .i64 b.no, .int .i64 b.fa, .int .i64 b.pu]
def BedV.onto (b : BedV) (i : Int) (c : Nat → Int) : BedV := ⟨i, c, b.wt + c 3, b.ea + c 3 * c 4, b.no + c 3 * c 5, b.fa + c 1 * c 0, b.pu + b.fa * 2 * c 0 + c 1 * c 0 * c 0⟩

theorem prod_bd {a b A B : Int} (ha : -A ≤ a) (ha' : a ≤ A) (hb : -B ≤ b) (hb' : b ≤ B) : -(A * B) ≤ a * b ∧ a * b ≤ A * B := by
  have hA : 0 ≤ A := by omega
  have hB : 0 ≤ B := by omega
  have h1 : 0 ≤ (A - a) * (B + b) := Int.mul_nonneg (by omega) (by omega)
  have h2 : 0 ≤ (A + a) * (B - b) := Int.mul_nonneg (by omega) (by omega)
  have h3 : 0 ≤ (A - a) * (B - b) := Int.mul_nonneg (by omega) (by omega)
  have h4 : 0 ≤ (A + a) * (B + b) := Int.mul_nonneg (by omega) (by omega)
  simp only [Int.sub_mul, Int.add_mul, Int.mul_sub, Int.mul_add] at h1 h2 h3 h4
  generalize a * b = ab at *
  generalize A * B = AB at *
  generalize A * b = Ab at *
  generalize a * B = aB at *
  omega
theorem BedV.val_eq (b : BedV) : b.val = .agg #[.int .i64 b.ix, .int .i64 (b.c 0), .int .i64 (b.c 1), .int .i64 (b.c 2), .int .i64 (b.c 3), .int .i64 (b.c 4), .int .i64 (b.c 5), .int .i64 b.wt, .int .i64 b.ea, .int .i64 b.no, .int .i64 b.fa, .int .i64 b.pu] := rfl

set_option maxRecDepth 1000000 in
set_option maxHeartbeats 2000000 in
theorem onto_any (ix c0 c1 c2 c3 c4 c5 wt ea no fa pu i d0 d1 d2 d3 d4 d5 : Int) (w : World) (hd : InCr d0 d1 d2 d3 d4 d5)
    (h1 : 0 ≤ wt ∧ wt ≤ 1000000000) (h2 : -10000000000000 ≤ ea ∧ ea ≤ 10000000000000) (h3 : -10000000000000 ≤ no ∧ no ≤ 10000000000000) (h4 : 0 ≤ fa ∧ fa ≤ 1000000000) (h5 : 0 ≤ pu ∧ pu ≤ 1000000000000000) :
    Calls Tryd.prog 103 #[.agg #[.int .i64 ix, .int .i64 c0, .int .i64 c1, .int .i64 c2, .int .i64 c3, .int .i64 c4, .int .i64 c5, .int .i64 wt, .int .i64 ea, .int .i64 no, .int .i64 fa, .int .i64 pu], .int .i64 i, .agg #[.int .i64 d0, .int .i64 d1, .int .i64 d2, .int .i64 d3, .int .i64 d4, .int .i64 d5]] w fun e w' =>
      e = .returned (.agg #[.int .i64 i, .int .i64 d0, .int .i64 d1, .int .i64 d2, .int .i64 d3, .int .i64 d4, .int .i64 d5, .int .i64 (wt + d3), .int .i64 (ea + d3 * d4), .int .i64 (no + d3 * d5), .int .i64 (fa + d1 * d0), .int .i64 (pu + fa * 2 * d0 + d1 * d0 * d0)]) ∧ Below w.heap.size w w' := by
  unfold InCr at hd
  obtain ⟨m1, m2⟩ := prod_bd (a := d1) (b := d0) (A := 5000) (B := 2000) (by omega) (by omega) (by omega) (by omega)
  obtain ⟨m3, m4⟩ := prod_bd (a := d3) (b := d4) (A := 1000000) (B := 5000) (by omega) (by omega) (by omega) (by omega)
  obtain ⟨m5, m6⟩ := prod_bd (a := d3) (b := d5) (A := 1000000) (B := 5000) (by omega) (by omega) (by omega) (by omega)
  obtain ⟨m7, m8⟩ := prod_bd (a := fa * 2) (b := d0) (A := 2000000000) (B := 2000) (by omega) (by omega) (by omega) (by omega)
  simp only [Int.reduceMul, Int.reduceNeg] at m1 m2 m3 m4 m5 m6 m7 m8
  obtain ⟨m9, m0⟩ := prod_bd (a := d1 * d0) (b := d0) (A := 10000000) (B := 2000) (by omega) (by omega) (by omega) (by omega)
  simp only [Int.reduceMul, Int.reduceNeg] at m9 m0
  obtain ⟨g1, g2⟩ := h1
  obtain ⟨g3, g4⟩ := h2
  obtain ⟨g5, g6⟩ := h3
  obtain ⟨g7, g8⟩ := h4
  obtain ⟨g9, g0⟩ := h5
  have q1 : 1 ≤ d3 := by omega
  have q2 : d3 ≤ 1000000 := by omega
  clear hd
  go_enter Tryd.func103, Tryd.ntmps103
  go_wp2
  go_returns
  exact ⟨rfl, by (repeat' (first | (with_reducible exact Below.refl _ _) | (with_reducible assumption) | (with_reducible refine Below.alloc ?_ ?_ _) | (with_reducible refine Below.drew ?_) | (with_reducible refine below_drewN ?_ _) | (with_reducible refine Below.setCell ?_ ?_ _) | (with_reducible refine below_after ?_ ?_ _) | (with_reducible refine below_set ?_) | (with_reducible refine After.size_le _ ?_) | (with_reducible refine size_alloc_le ?_) | (with_reducible refine size_set_le ?_) | (with_reducible refine size_drewN_le ?_) | go_size))⟩
end Go.Proofs.YtcaelmaoldmgpaaDoor.Cr
