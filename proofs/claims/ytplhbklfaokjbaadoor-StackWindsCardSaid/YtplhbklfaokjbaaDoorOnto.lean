/- Stage 2: a bed put onto a course. -/
import Derived.Test.YtplhbklfaokjbaaDoorHeight
namespace Go.Proofs.YtplhbklfaokjbaaDoor
open Go.RowKit
attribute [local go_sem] After.cell After.frozen After.lt After.le After.ne After.ne' After.set_eq After.size_set After.lt_add

/-- A bed as the program holds it: its course's index, the course's six numbers, weight, east, north, face, push. -/
structure BedV where
  ix : Int
  c : Nat → Int
  wt : Int
  ea : Int
  no : Int
  fa : Int
  pu : Int
def BedV.val (b : BedV) : Value := .agg #[.int .i64 b.ix, .int .i64 (b.c 0), .int .i64 (b.c 1), .int .i64 (b.c 2), .int .i64 (b.c 3), .int .i64 (b.c 4), .int .i64 (b.c 5), .int .i64 b.wt, .int .i64 b.ea, .int .i64 b.no, .int .i64 b.fa, .int .i64 b.pu]
def BedV.onto (b : BedV) (i : Int) (c : Nat → Int) : BedV := ⟨i, c, b.wt + c 3, b.ea + c 3 * c 4, b.no + c 3 * c 5, b.fa + c 1 * c 0, b.pu + b.fa * 2 * c 0 + c 1 * c 0 * c 0⟩

theorem prod_bd {a b A B : Int} (ha : -A ≤ a) (ha' : a ≤ A) (hb : -B ≤ b) (hb' : b ≤ B) : -(A * B) ≤ a * b ∧ a * b ≤ A * B := by
  have hA : 0 ≤ A := by omega
  have hB : 0 ≤ B := by omega
  have h1 : 0 ≤ (A - a) * (B + b) := Int.mul_nonneg (by omega) (by omega)
  have h2 : 0 ≤ (A + a) * (B - b) := Int.mul_nonneg (by omega) (by omega)
  have h3 : 0 ≤ (A - a) * (B - b) := Int.mul_nonneg (by omega) (by omega)
  have h4 : 0 ≤ (A + a) * (B + b) := Int.mul_nonneg (by omega) (by omega)
  simp only [Int.sub_mul, Int.add_mul, Int.mul_sub, Int.mul_add] at h1 h2 h3 h4
  generalize a * b = ab at *
  generalize A * B = AB at *
  generalize A * b = Ab at *
  generalize a * B = aB at *
  omega
theorem BedV.val_eq (b : BedV) : b.val = .agg #[.int .i64 b.ix, .int .i64 (b.c 0), .int .i64 (b.c 1), .int .i64 (b.c 2), .int .i64 (b.c 3), .int .i64 (b.c 4), .int .i64 (b.c 5), .int .i64 b.wt, .int .i64 b.ea, .int .i64 b.no, .int .i64 b.fa, .int .i64 b.pu] := rfl

set_option maxRecDepth 1000000 in
set_option maxHeartbeats 2000000 in
theorem onto_any (ix c0 c1 c2 c3 c4 c5 wt ea no fa pu i d0 d1 d2 d3 d4 d5 : Int) (w : World) (hd : InCr d0 d1 d2 d3 d4 d5)
    (h1 : 0 ≤ wt ∧ wt ≤ 1000000000) (h2 : -10000000000000 ≤ ea ∧ ea ≤ 10000000000000) (h3 : -10000000000000 ≤ no ∧ no ≤ 10000000000000) (h4 : 0 ≤ fa ∧ fa ≤ 1000000000) (h5 : 0 ≤ pu ∧ pu ≤ 1000000000000000) :
    Calls Tryd.prog 90 #[.agg #[.int .i64 ix, .int .i64 c0, .int .i64 c1, .int .i64 c2, .int .i64 c3, .int .i64 c4, .int .i64 c5, .int .i64 wt, .int .i64 ea, .int .i64 no, .int .i64 fa, .int .i64 pu], .int .i64 i, .agg #[.int .i64 d0, .int .i64 d1, .int .i64 d2, .int .i64 d3, .int .i64 d4, .int .i64 d5]] w fun e w' =>
      e = .returned (.agg #[.int .i64 i, .int .i64 d0, .int .i64 d1, .int .i64 d2, .int .i64 d3, .int .i64 d4, .int .i64 d5, .int .i64 (wt + d3), .int .i64 (ea + d3 * d4), .int .i64 (no + d3 * d5), .int .i64 (fa + d1 * d0), .int .i64 (pu + fa * 2 * d0 + d1 * d0 * d0)]) ∧ Below w.heap.size w w' := by
  unfold InCr at hd
  obtain ⟨m1, m2⟩ := prod_bd (a := d1) (b := d0) (A := 5000) (B := 2000) (by omega) (by omega) (by omega) (by omega)
  obtain ⟨m3, m4⟩ := prod_bd (a := d3) (b := d4) (A := 1000000) (B := 5000) (by omega) (by omega) (by omega) (by omega)
  obtain ⟨m5, m6⟩ := prod_bd (a := d3) (b := d5) (A := 1000000) (B := 5000) (by omega) (by omega) (by omega) (by omega)
  obtain ⟨m7, m8⟩ := prod_bd (a := fa * 2) (b := d0) (A := 2000000000) (B := 2000) (by omega) (by omega) (by omega) (by omega)
  simp only [Int.reduceMul, Int.reduceNeg] at m1 m2 m3 m4 m5 m6 m7 m8
  obtain ⟨m9, m0⟩ := prod_bd (a := d1 * d0) (b := d0) (A := 10000000) (B := 2000) (by omega) (by omega) (by omega) (by omega)
  simp only [Int.reduceMul, Int.reduceNeg] at m9 m0
  obtain ⟨g1, g2⟩ := h1
  obtain ⟨g3, g4⟩ := h2
  obtain ⟨g5, g6⟩ := h3
  obtain ⟨g7, g8⟩ := h4
  obtain ⟨g9, g0⟩ := h5
  have q1 : 1 ≤ d3 := by omega
  have q2 : d3 ≤ 1000000 := by omega
  clear hd
  go_enter Tryd.func90, Tryd.ntmps90
  go_wp2
  go_returns
  exact ⟨rfl, by (repeat' (first | (with_reducible exact Below.refl _ _) | (with_reducible assumption) | (with_reducible refine Below.alloc ?_ ?_ _) | (with_reducible refine Below.drew ?_) | (with_reducible refine below_drewN ?_ _) | (with_reducible refine Below.setCell ?_ ?_ _) | (with_reducible refine below_after ?_ ?_ _) | (with_reducible refine below_set ?_) | (with_reducible refine After.size_le _ ?_) | (with_reducible refine size_alloc_le ?_) | (with_reducible refine size_set_le ?_) | (with_reducible refine size_drewN_le ?_) | go_size))⟩
end Go.Proofs.YtplhbklfaokjbaaDoor
