/- StackParts: the law's walk. -/
import Derived.Test.YtnlcfejjehhedaaDoorCsay
import Derived.Test.YtnlcfejjehhedaaDoorMom
import Derived.Test.YtnlcfejjehhedaaDoorPartsm
namespace Go.Proofs.YtnlcfejjehhedaaDoor
open Go.RowKit
attribute [local go_sem 10000] eql_ratio neq_ratio
attribute [local go_sem] After.cell After.frozen After.lt After.le After.ne After.ne' After.lt_add eq2_self

set_option maxRecDepth 100000 in
set_option maxHeartbeats 1000000 in
theorem stackParts_out (a : Option Addr) (n cap : Nat) (i p : Int) (w : World) (hT : Tab w) (h : 60 < n ∨ i < 0 ∨ n ≤ i) :
    Calls Tryd.prog 11 #[.slice a n cap, .int .i64 i, .int .i64 p] w fun e w' => e = .returned (.bool true) ∧ Below w.heap.size w w' := by
  have HT := Lib.hid (awake_any w hT)
  clear hT
  by_cases h1 : 60 < n
  · have d1 : decide ((60 : Int) < (n : Int)) = true := decide_eq_true (by omega)
    go_enter Tryd.func11, Tryd.ntmps11
    go_wp2_with fail
    refine calls_after HT.out ?_
    intro x1
    go_wp2
    go_ret
    exact ⟨rfl, by (repeat' (first | (with_reducible exact Below.refl _ _) | (with_reducible assumption) | (with_reducible refine Below.alloc ?_ ?_ _) | (with_reducible refine Below.drew ?_) | (with_reducible refine below_drewN ?_ _) | (with_reducible refine Below.setCell ?_ ?_ _) | (with_reducible refine below_after ?_ ?_ _) | (with_reducible refine below_set ?_) | (with_reducible refine After.size_le _ ?_) | (with_reducible refine size_alloc_le ?_) | (with_reducible refine size_set_le ?_) | (with_reducible refine size_drewN_le ?_) | go_size))⟩
  · have d1 : decide ((60 : Int) < (n : Int)) = false := decide_eq_false (by omega)
    by_cases h2 : i < 0
    · have d2 : decide (i < 0) = true := decide_eq_true h2
      go_enter Tryd.func11, Tryd.ntmps11
      go_wp2_with fail
      refine calls_after HT.out ?_
      intro x1
      go_wp2
      go_ret
      exact ⟨rfl, by (repeat' (first | (with_reducible exact Below.refl _ _) | (with_reducible assumption) | (with_reducible refine Below.alloc ?_ ?_ _) | (with_reducible refine Below.drew ?_) | (with_reducible refine below_drewN ?_ _) | (with_reducible refine Below.setCell ?_ ?_ _) | (with_reducible refine below_after ?_ ?_ _) | (with_reducible refine below_set ?_) | (with_reducible refine After.size_le _ ?_) | (with_reducible refine size_alloc_le ?_) | (with_reducible refine size_set_le ?_) | (with_reducible refine size_drewN_le ?_) | go_size))⟩
    · have d2 : decide (i < 0) = false := decide_eq_false h2
      have d3 : decide ((n : Int) ≤ i) = true := decide_eq_true (by omega)
      go_enter Tryd.func11, Tryd.ntmps11
      go_wp2_with fail
      refine calls_after HT.out ?_
      intro x1
      go_wp2
      go_ret
      exact ⟨rfl, by (repeat' (first | (with_reducible exact Below.refl _ _) | (with_reducible assumption) | (with_reducible refine Below.alloc ?_ ?_ _) | (with_reducible refine Below.drew ?_) | (with_reducible refine below_drewN ?_ _) | (with_reducible refine Below.setCell ?_ ?_ _) | (with_reducible refine below_after ?_ ?_ _) | (with_reducible refine below_set ?_) | (with_reducible refine After.size_le _ ?_) | (with_reducible refine size_alloc_le ?_) | (with_reducible refine size_set_le ?_) | (with_reducible refine size_drewN_le ?_) | go_size))⟩
set_option maxRecDepth 100000 in
set_option maxHeartbeats 1000000 in
theorem stackParts_bad (a : Option Addr) (n cap : Nat) (i p e : Int) (w : World) (hT : Tab w) (h1 : n ≤ 60) (h2 : 0 ≤ i) (h3 : i < n) (he : (e == 0) = false)
    (hW : LSay w 19 #[.slice a n cap, .int .i64 i] (.tuple #[.int .i64 0, .int .i64 e])) :
    Calls Tryd.prog 11 #[.slice a n cap, .int .i64 i, .int .i64 p] w fun e w' => e = .returned (.bool true) ∧ Below w.heap.size w w' := by
  have HT : Hid (∀ W, Below w.heap.size w W → _) := fun W hW => awake_any W (hT.on hW)
  have H1 : Hid (∀ W, Below w.heap.size w W → _) := hW
  have d1 : decide ((60 : Int) < (n : Int)) = false := decide_eq_false (by omega)
  have d2 : decide (i < 0) = false := decide_eq_false (by omega)
  have d3 : decide ((n : Int) ≤ i) = false := decide_eq_false (by omega)
  clear hT hW
  go_enter Tryd.func11, Tryd.ntmps11
  (go_wp2_with fail); refine calls_after (H1.out _ (by (repeat' (first | (with_reducible exact Below.refl _ _) | (with_reducible assumption) | (with_reducible refine Below.alloc ?_ ?_ _) | (with_reducible refine Below.drew ?_) | (with_reducible refine below_drewN ?_ _) | (with_reducible refine Below.setCell ?_ ?_ _) | (with_reducible refine below_after ?_ ?_ _) | (with_reducible refine below_set ?_) | (with_reducible refine After.size_le _ ?_) | (with_reducible refine size_alloc_le ?_) | (with_reducible refine size_set_le ?_) | (with_reducible refine size_drewN_le ?_) | go_size)))) ?_; intro x1
  (go_wp2_with fail); refine calls_after2 (HT.out _ (by (repeat' (first | (with_reducible exact Below.refl _ _) | (with_reducible assumption) | (with_reducible refine Below.alloc ?_ ?_ _) | (with_reducible refine Below.drew ?_) | (with_reducible refine below_drewN ?_ _) | (with_reducible refine Below.setCell ?_ ?_ _) | (with_reducible refine below_after ?_ ?_ _) | (with_reducible refine below_set ?_) | (with_reducible refine After.size_le _ ?_) | (with_reducible refine size_alloc_le ?_) | (with_reducible refine size_set_le ?_) | (with_reducible refine size_drewN_le ?_) | go_size)))) ?_; intro x2
  go_wp2
  go_ret
  exact ⟨rfl, by (repeat' (first | (with_reducible exact Below.refl _ _) | (with_reducible assumption) | (with_reducible refine Below.alloc ?_ ?_ _) | (with_reducible refine Below.drew ?_) | (with_reducible refine below_drewN ?_ _) | (with_reducible refine Below.setCell ?_ ?_ _) | (with_reducible refine below_after ?_ ?_ _) | (with_reducible refine below_set ?_) | (with_reducible refine After.size_le _ ?_) | (with_reducible refine size_alloc_le ?_) | (with_reducible refine size_set_le ?_) | (with_reducible refine size_drewN_le ?_) | go_size))⟩
/-- The numbers of the law. -/
structure Pn where
  wt : Int
  r : Int
  d0 : Int
  d1 : Int
  d2 : Int
  d3 : Int
  d4 : Int
  d5 : Int
  N1 : Int
  D1 : Int
  N2 : Int
  D2 : Int
  N3 : Int
  D3 : Int
  N4 : Int
  D4 : Int
  E1 : Int
  E2 : Int
  E3 : Int
  E4 : Int
def Pn.ok (q : Pn) : Prop := Dv q.wt q.N1 q.D1 q.E1 ∧ Dv q.wt q.N2 q.D2 q.E2 ∧ Dv q.r q.N3 q.D3 q.E3 ∧ Dv q.r q.N4 q.D4 q.E4 ∧ (0 ≤ q.d3 ∧ q.d3 ≤ 1000000) ∧ (-5000 ≤ q.d4 ∧ q.d4 ≤ 5000) ∧ (-5000 ≤ q.d5 ∧ q.d5 ≤ 5000) ∧ (0 ≤ q.r ∧ q.r ≤ 60000000) ∧ (0 ≤ q.wt ∧ q.wt ≤ 60000000) ∧
  q.wt = q.d3 + q.r ∧ q.E1 = q.d3 * q.d4 + q.E3 ∧ q.E2 = q.d3 * q.d5 + q.E4 ∧ (-300000000000 ≤ q.E1 ∧ q.E1 ≤ 300000000000) ∧ (-300000000000 ≤ q.E2 ∧ q.E2 ≤ 300000000000) ∧ (-300000000000 ≤ q.E3 ∧ q.E3 ≤ 300000000000) ∧ (-300000000000 ≤ q.E4 ∧ q.E4 ≤ 300000000000)
set_option maxRecDepth 100000 in
set_option maxHeartbeats 4000000 in
theorem stackParts_more (b off cap n k : Nat) (p N5 D5 N6 D6 : Int) (q : Pn) (w : World) (h1 : n ≤ 60) (h3 : k + 1 < n) (hb : b < w.heap.size)
    (hq : q.ok)
    (hc : ∀ W, Below w.heap.size w W → W.cell? ⟨b, off + k * 6, none⟩ = some (.int .i64 q.d0) ∧ W.cell? ⟨b, off + k * 6 + 1, none⟩ = some (.int .i64 q.d1) ∧ W.cell? ⟨b, off + k * 6 + 2, none⟩ = some (.int .i64 q.d2) ∧ W.cell? ⟨b, off + k * 6 + 3, none⟩ = some (.int .i64 q.d3) ∧ W.cell? ⟨b, off + k * 6 + 4, none⟩ = some (.int .i64 q.d4) ∧ W.cell? ⟨b, off + k * 6 + 5, none⟩ = some (.int .i64 q.d5))
    (H1 : LSay w 19 #[.slice (some ⟨b, off, none⟩) n cap, .int .i64 (k : Nat)] (.tuple #[.int .i64 q.wt, .int .i64 0]))
    (H2 : LSay w 21 #[.slice (some ⟨b, off, none⟩) n cap, .int .i64 (k : Nat)] (.tuple #[.agg #[.int .i64 q.N1, .int .i64 q.D1], .agg #[.int .i64 q.N2, .int .i64 q.D2], .int .i64 0]))
    (H3 : LSay w 19 #[.slice (some ⟨b, off, none⟩) n cap, .int .i64 ((k : Int) + 1)] (.tuple #[.int .i64 q.r, .int .i64 0]))
    (H4 : LSay w 21 #[.slice (some ⟨b, off, none⟩) n cap, .int .i64 ((k : Int) + 1)] (.tuple #[.agg #[.int .i64 q.N3, .int .i64 q.D3], .agg #[.int .i64 q.N4, .int .i64 q.D4], .int .i64 0]))
    (H5 : LSay w 25 #[.slice (some ⟨b, off, none⟩) n cap, .int .i64 (k : Nat), .int .i64 1] (.tuple #[.agg #[.int .i64 N5, .int .i64 D5], .int .i64 0]))
    (H6 : LSay w 25 #[.slice (some ⟨b, off, none⟩) n cap, .int .i64 (k : Nat), .int .i64 p] (.tuple #[.agg #[.int .i64 N6, .int .i64 D6], .int .i64 0]))
    (H7 : ∀ W, Calls Tryd.prog 53 #[.int .i64 (N5 * p), .int .i64 D5] W fun e w' => e = .returned (.agg #[.int .i64 N6, .int .i64 D6]) ∧ Below W.heap.size W w')
    (hp : (-2000000000000000000 ≤ N5 * p ∧ N5 * p ≤ 2000000000000000000) ∧ 1 ≤ D5 ∧ 1 ≤ D6)
    (hT : ∀ W, Below w.heap.size w W → Calls Tryd.prog 14 #[] W fun e w' => e = .returned (.bool true) ∧ Below W.heap.size W w') :
    Calls Tryd.prog 11 #[.slice (some ⟨b, off, none⟩) n cap, .int .i64 (k : Nat), .int .i64 p] w fun e w' => e = .returned (.bool true) ∧ Below w.heap.size w w' := by
  obtain ⟨wt, r, d0, d1, d2, d3, d4, d5, N1, D1, N2, D2, N3, D3, N4, D4, E1, E2, E3, E4⟩ := q
  obtain ⟨v1, v2, v3, v4, ⟨g1, g2⟩, ⟨g3, g4⟩, ⟨g5, g6⟩, ⟨g7, g8⟩, ⟨g9, g10⟩, eW, eE, eN, ⟨f1, f2⟩, ⟨f3, f4⟩, ⟨f5, f6⟩, ⟨f7, f8⟩⟩ := hq
  dsimp only at v1 v2 v3 v4 g1 g2 g3 g4 g5 g6 g7 g8 g9 g10 eW eE eN f1 f2 f3 f4 f5 f6 f7 f8 hc H1 H2 H3 H4
  obtain ⟨v11, v12, v13, v14, v15, v16, v17, v18⟩ := v1
  obtain ⟨v21, v22, v23, v24, v25, v26, v27, v28⟩ := v2
  obtain ⟨v31, v32, v33, v34, v35, v36, v37, v38⟩ := v3
  obtain ⟨v41, v42, v43, v44, v45, v46, v47, v48⟩ := v4
  obtain ⟨p1, p2⟩ := prod_bd (a := d3) (b := d4) (A := 1000000) (B := 5000) (by omega) (by omega) (by omega) (by omega)
  obtain ⟨p3, p4⟩ := prod_bd (a := d3) (b := d5) (A := 1000000) (B := 5000) (by omega) (by omega) (by omega) (by omega)
  simp only [Int.reduceMul, Int.reduceNeg] at p1 p2 p3 p4
  have t1 : (wt != d3 + r) = false := by simp [eW]
  have t2 : (wt % D1 != 0) = false := by simp [v17]
  have t3 : (wt % D2 != 0) = false := by simp [v27]
  have t4 : (r % D3 != 0) = false := by simp [v37]
  have t5 : (r % D4 != 0) = false := by simp [v47]
  have t6 : (N1 * (wt / D1) != d3 * d4 + N3 * (r / D3)) = false := by rw [v18, v38, ← eE]; simp
  have t7 : (N2 * (wt / D2) != d3 * d5 + N4 * (r / D4)) = false := by rw [v28, v48, ← eN]; simp
  have b1 : -300000000000 ≤ N1 * (wt / D1) ∧ N1 * (wt / D1) ≤ 300000000000 := by rw [v18]; exact ⟨f1, f2⟩
  have b2 : -300000000000 ≤ N2 * (wt / D2) ∧ N2 * (wt / D2) ≤ 300000000000 := by rw [v28]; exact ⟨f3, f4⟩
  have b3 : -300000000000 ≤ N3 * (r / D3) ∧ N3 * (r / D3) ≤ 300000000000 := by rw [v38]; exact ⟨f5, f6⟩
  have b4 : -300000000000 ≤ N4 * (r / D4) ∧ N4 * (r / D4) ≤ 300000000000 := by rw [v48]; exact ⟨f7, f8⟩
  obtain ⟨b1, b1'⟩ := b1
  obtain ⟨b2, b2'⟩ := b2
  obtain ⟨b3, b3'⟩ := b3
  obtain ⟨b4, b4'⟩ := b4
  have z1 : (D1 == 0) = false := beq_eq_false_iff_ne.2 (by omega)
  have z2 : (D2 == 0) = false := beq_eq_false_iff_ne.2 (by omega)
  have z3 : (D3 == 0) = false := beq_eq_false_iff_ne.2 (by omega)
  have z4 : (D4 == 0) = false := beq_eq_false_iff_ne.2 (by omega)
  have y1 : decide (D1 < 1) = false := decide_eq_false (by omega)
  have y2 : decide (D2 < 1) = false := decide_eq_false (by omega)
  have y3 : decide (D3 < 1) = false := decide_eq_false (by omega)
  have y4 : decide (D4 < 1) = false := decide_eq_false (by omega)
  clear v17 v18 v27 v28 v37 v38 v47 v48 eW eE eN f1 f2 f3 f4 f5 f6 f7 f8
  have q1 : decide ((60 : Int) < (n : Int)) = false := decide_eq_false (by omega)
  have q2 : decide (((k : Nat) : Int) < 0) = false := decide_eq_false (by omega)
  have q3 : decide ((n : Int) ≤ ((k : Nat) : Int)) = false := decide_eq_false (by omega)
  have H1 : Hid (∀ W, Below w.heap.size w W → _) := H1
  have H2 : Hid (∀ W, Below w.heap.size w W → _) := H2
  have H5 : Hid (∀ W, Below w.heap.size w W → _) := H5
  have H6 : Hid (∀ W, Below w.heap.size w W → _) := H6
  have HT : Hid (∀ W, Below w.heap.size w W → _) := hT
  have HC := Lib.hid hc
  clear hc hT
  have H7 := Lib.hid H7
  obtain ⟨⟨hp1, hp2⟩, hp3, hp4⟩ := hp
  have y5 : decide (1 ≤ D5) = true := decide_eq_true hp3
  have y6 : decide (1 ≤ D6) = true := decide_eq_true hp4
  have q4 : decide (((k : Nat) : Int) + 1 < (n : Int)) = true := decide_eq_true (by omega)
  have H3 : Hid (∀ W, Below w.heap.size w W → _) := H3
  have H4 : Hid (∀ W, Below w.heap.size w W → _) := H4
  go_enter Tryd.func11, Tryd.ntmps11
  (go_wp2_with fail); refine calls_after (H1.out _ (by (repeat' (first | (with_reducible exact Below.refl _ _) | (with_reducible assumption) | (with_reducible refine Below.alloc ?_ ?_ _) | (with_reducible refine Below.drew ?_) | (with_reducible refine below_drewN ?_ _) | (with_reducible refine Below.setCell ?_ ?_ _) | (with_reducible refine below_after ?_ ?_ _) | (with_reducible refine below_set ?_) | (with_reducible refine After.size_le _ ?_) | (with_reducible refine size_alloc_le ?_) | (with_reducible refine size_set_le ?_) | (with_reducible refine size_drewN_le ?_) | go_size)))) ?_; intro x1
  (go_wp2_with fail); refine calls_after2 (H2.out _ (by (repeat' (first | (with_reducible exact Below.refl _ _) | (with_reducible assumption) | (with_reducible refine Below.alloc ?_ ?_ _) | (with_reducible refine Below.drew ?_) | (with_reducible refine below_drewN ?_ _) | (with_reducible refine Below.setCell ?_ ?_ _) | (with_reducible refine below_after ?_ ?_ _) | (with_reducible refine below_set ?_) | (with_reducible refine After.size_le _ ?_) | (with_reducible refine size_alloc_le ?_) | (with_reducible refine size_set_le ?_) | (with_reducible refine size_drewN_le ?_) | go_size)))) ?_; intro x2
  (go_wp2_with fail); refine calls_after (H3.out _ (by (repeat' (first | (with_reducible exact Below.refl _ _) | (with_reducible assumption) | (with_reducible refine Below.alloc ?_ ?_ _) | (with_reducible refine Below.drew ?_) | (with_reducible refine below_drewN ?_ _) | (with_reducible refine Below.setCell ?_ ?_ _) | (with_reducible refine below_after ?_ ?_ _) | (with_reducible refine below_set ?_) | (with_reducible refine After.size_le _ ?_) | (with_reducible refine size_alloc_le ?_) | (with_reducible refine size_set_le ?_) | (with_reducible refine size_drewN_le ?_) | go_size)))) ?_; intro x3; have hz_x3 := x3.out.size; (try simp only [World.size_alloc] at hz_x3); (try simp only [World.size_setCell] at hz_x3); (try simp only [World.size_alloc] at hz_x3); have k0_x3 : x2.w.heap.size < x3.w.heap.size := (by omega); have j0_x3 : x2.w.heap.size < x3.w.heap.size + 1 := (by omega); have k1_x3 : x2.w.heap.size + 1 < x3.w.heap.size := (by omega); have j1_x3 : x2.w.heap.size + 1 < x3.w.heap.size + 1 := (by omega); have k2_x3 : x2.w.heap.size + 1 + 1 < x3.w.heap.size := (by omega); have j2_x3 : x2.w.heap.size + 1 + 1 < x3.w.heap.size + 1 := (by omega); have k3_x3 : x2.w.heap.size + 1 + 1 + 1 < x3.w.heap.size := (by omega); have j3_x3 : x2.w.heap.size + 1 + 1 + 1 < x3.w.heap.size + 1 := (by omega)
  (go_wp2_with fail); refine calls_after2 (H4.out _ (by (repeat' (first | (with_reducible exact Below.refl _ _) | (with_reducible assumption) | (with_reducible refine Below.alloc ?_ ?_ _) | (with_reducible refine Below.drew ?_) | (with_reducible refine below_drewN ?_ _) | (with_reducible refine Below.setCell ?_ ?_ _) | (with_reducible refine below_after ?_ ?_ _) | (with_reducible refine below_set ?_) | (with_reducible refine After.size_le _ ?_) | (with_reducible refine size_alloc_le ?_) | (with_reducible refine size_set_le ?_) | (with_reducible refine size_drewN_le ?_) | go_size)))) ?_; intro x4; have hz_x4 := x4.out.size; (try simp only [World.size_alloc] at hz_x4); (try simp only [World.size_setCell] at hz_x4); (try simp only [World.size_alloc] at hz_x4); have k0_x4 : x2.w.heap.size < x4.w.heap.size := (by omega); have j0_x4 : x2.w.heap.size < x4.w.heap.size + 1 := (by omega); have k1_x4 : x2.w.heap.size + 1 < x4.w.heap.size := (by omega); have j1_x4 : x2.w.heap.size + 1 < x4.w.heap.size + 1 := (by omega); have k2_x4 : x2.w.heap.size + 1 + 1 < x4.w.heap.size := (by omega); have j2_x4 : x2.w.heap.size + 1 + 1 < x4.w.heap.size + 1 := (by omega); have k3_x4 : x2.w.heap.size + 1 + 1 + 1 < x4.w.heap.size := (by omega); have j3_x4 : x2.w.heap.size + 1 + 1 + 1 < x4.w.heap.size + 1 := (by omega)
  have hx2 := x2.out.size
  have hbx : b < x2.w.heap.size := Nat.lt_of_lt_of_le hb hx2
  have hb4 : b < x4.w.heap.size := by omega
  have hb5 : b < x4.w.heap.size + 1 := by omega
  have hb6 : b < x2.w.heap.size + 1 := by omega
  have hb7 : b < x2.w.heap.size + 1 + 1 := by omega
  have hb8 : b < x2.w.heap.size + 1 + 1 + 1 := by omega
  have hb9 : b < x2.w.heap.size + 1 + 1 + 1 + 1 := by omega
  have n5 : b ≠ x4.w.heap.size := by omega
  have n1 : b ≠ x2.w.heap.size := by omega
  have n2 : b ≠ x2.w.heap.size + 1 := by omega
  have n3 : b ≠ x2.w.heap.size + 1 + 1 := by omega
  have n4 : b ≠ x2.w.heap.size + 1 + 1 + 1 := by omega
  obtain ⟨c0, c1, c2, c3, c4, c5⟩ := HC.out w (Below.refl _ w)
  clear HC
  go_wp2_with fail
  go_quiet (fail)
  go_wp2_with fail
  refine calls_after (H5.out _ (by (repeat' (first | (with_reducible exact Below.refl _ _) | (with_reducible assumption) | (with_reducible refine Below.alloc ?_ ?_ _) | (with_reducible refine Below.drew ?_) | (with_reducible refine below_drewN ?_ _) | (with_reducible refine Below.setCell ?_ ?_ _) | (with_reducible refine below_after ?_ ?_ _) | (with_reducible refine below_set ?_) | (with_reducible refine After.size_le _ ?_) | (with_reducible refine size_alloc_le ?_) | (with_reducible refine size_set_le ?_) | (with_reducible refine size_drewN_le ?_) | go_size)); all_goals (dsimp only; omega))) ?_
  intro x5
  go_wp2_with fail
  refine calls_after (H6.out _ (by (repeat' (first | (with_reducible exact Below.refl _ _) | (with_reducible assumption) | (with_reducible refine Below.alloc ?_ ?_ _) | (with_reducible refine Below.drew ?_) | (with_reducible refine below_drewN ?_ _) | (with_reducible refine Below.setCell ?_ ?_ _) | (with_reducible refine below_after ?_ ?_ _) | (with_reducible refine below_set ?_) | (with_reducible refine After.size_le _ ?_) | (with_reducible refine size_alloc_le ?_) | (with_reducible refine size_set_le ?_) | (with_reducible refine size_drewN_le ?_) | go_size)); all_goals (dsimp only; omega))) ?_
  intro x6
  have hz_x6 := x6.out.size; (try simp only [World.size_alloc] at hz_x6); (try simp only [World.size_setCell] at hz_x6); (try simp only [World.size_alloc] at hz_x6); have k0_x6 : x5.w.heap.size < x6.w.heap.size := (by omega); have j0_x6 : x5.w.heap.size < x6.w.heap.size + 1 := (by omega)
  go_wp2_with fail
  refine wp_region_after (by kernel_rfl) (by kernel_rfl) ?_; (repeat (first | go_big_quiet_step ((first | (go_at_call 53; with_reducible exact quiet_after (H7.out _)) | (go_at_call 14; with_reducible exact quiet_after (HT.out _ (by (repeat' (first | (with_reducible exact Below.refl _ _) | (with_reducible assumption) | (with_reducible refine Below.alloc ?_ ?_ _) | (with_reducible refine Below.drew ?_) | (with_reducible refine below_drewN ?_ _) | (with_reducible refine Below.setCell ?_ ?_ _) | (with_reducible refine below_after ?_ ?_ _) | (with_reducible refine below_set ?_) | (with_reducible refine After.size_le _ ?_) | (with_reducible refine size_alloc_le ?_) | (with_reducible refine size_set_le ?_) | (with_reducible refine size_drewN_le ?_) | go_size)); all_goals (dsimp only; omega)))))) | (refine wpQuiet_step (fun K hK => ?_); go_simp; first | (refine hK _ ?_; clear hK K) | (apply Exists.intro; refine ⟨fun x => ?_, hK _ ?_⟩; (first | (go_at_call 53; with_reducible exact quiet_after (H7.out _)) | (go_at_call 14; with_reducible exact quiet_after (HT.out _ (by (repeat' (first | (with_reducible exact Below.refl _ _) | (with_reducible assumption) | (with_reducible refine Below.alloc ?_ ?_ _) | (with_reducible refine Below.drew ?_) | (with_reducible refine below_drewN ?_ _) | (with_reducible refine Below.setCell ?_ ?_ _) | (with_reducible refine below_after ?_ ?_ _) | (with_reducible refine below_set ?_) | (with_reducible refine After.size_le _ ?_) | (with_reducible refine size_alloc_le ?_) | (with_reducible refine size_set_le ?_) | (with_reducible refine size_drewN_le ?_) | go_size)); all_goals (dsimp only; omega))))); clear hK K)))); refine wpQuiet_nil ?_
  intro x7
  go_wp2
  go_ret
  exact ⟨rfl, by (repeat' (first | (with_reducible exact Below.refl _ _) | (with_reducible assumption) | (with_reducible refine Below.alloc ?_ ?_ _) | (with_reducible refine Below.drew ?_) | (with_reducible refine below_drewN ?_ _) | (with_reducible refine Below.setCell ?_ ?_ _) | (with_reducible refine below_after ?_ ?_ _) | (with_reducible refine below_set ?_) | (with_reducible refine After.size_le _ ?_) | (with_reducible refine size_alloc_le ?_) | (with_reducible refine size_set_le ?_) | (with_reducible refine size_drewN_le ?_) | go_size)); all_goals (dsimp only; omega)⟩
set_option maxRecDepth 100000 in
set_option maxHeartbeats 4000000 in
theorem stackParts_more0 (b off cap n k : Nat) (p N5 D5 e6 : Int) (q : Pn) (w : World) (h1 : n ≤ 60) (h3 : k + 1 < n) (hb : b < w.heap.size)
    (hq : q.ok)
    (hc : ∀ W, Below w.heap.size w W → W.cell? ⟨b, off + k * 6, none⟩ = some (.int .i64 q.d0) ∧ W.cell? ⟨b, off + k * 6 + 1, none⟩ = some (.int .i64 q.d1) ∧ W.cell? ⟨b, off + k * 6 + 2, none⟩ = some (.int .i64 q.d2) ∧ W.cell? ⟨b, off + k * 6 + 3, none⟩ = some (.int .i64 q.d3) ∧ W.cell? ⟨b, off + k * 6 + 4, none⟩ = some (.int .i64 q.d4) ∧ W.cell? ⟨b, off + k * 6 + 5, none⟩ = some (.int .i64 q.d5))
    (H1 : LSay w 19 #[.slice (some ⟨b, off, none⟩) n cap, .int .i64 (k : Nat)] (.tuple #[.int .i64 q.wt, .int .i64 0]))
    (H2 : LSay w 21 #[.slice (some ⟨b, off, none⟩) n cap, .int .i64 (k : Nat)] (.tuple #[.agg #[.int .i64 q.N1, .int .i64 q.D1], .agg #[.int .i64 q.N2, .int .i64 q.D2], .int .i64 0]))
    (H3 : LSay w 19 #[.slice (some ⟨b, off, none⟩) n cap, .int .i64 ((k : Int) + 1)] (.tuple #[.int .i64 q.r, .int .i64 0]))
    (H4 : LSay w 21 #[.slice (some ⟨b, off, none⟩) n cap, .int .i64 ((k : Int) + 1)] (.tuple #[.agg #[.int .i64 q.N3, .int .i64 q.D3], .agg #[.int .i64 q.N4, .int .i64 q.D4], .int .i64 0]))
    (H5 : LSay w 25 #[.slice (some ⟨b, off, none⟩) n cap, .int .i64 (k : Nat), .int .i64 1] (.tuple #[.agg #[.int .i64 N5, .int .i64 D5], .int .i64 0]))
    (H6 : LSay w 25 #[.slice (some ⟨b, off, none⟩) n cap, .int .i64 (k : Nat), .int .i64 p] (.tuple #[.agg #[.int .i64 0, .int .i64 0], .int .i64 e6])) (he : (e6 != 0) = true)
    (hT : ∀ W, Below w.heap.size w W → Calls Tryd.prog 14 #[] W fun e w' => e = .returned (.bool true) ∧ Below W.heap.size W w') :
    Calls Tryd.prog 11 #[.slice (some ⟨b, off, none⟩) n cap, .int .i64 (k : Nat), .int .i64 p] w fun e w' => e = .returned (.bool true) ∧ Below w.heap.size w w' := by
  obtain ⟨wt, r, d0, d1, d2, d3, d4, d5, N1, D1, N2, D2, N3, D3, N4, D4, E1, E2, E3, E4⟩ := q
  obtain ⟨v1, v2, v3, v4, ⟨g1, g2⟩, ⟨g3, g4⟩, ⟨g5, g6⟩, ⟨g7, g8⟩, ⟨g9, g10⟩, eW, eE, eN, ⟨f1, f2⟩, ⟨f3, f4⟩, ⟨f5, f6⟩, ⟨f7, f8⟩⟩ := hq
  dsimp only at v1 v2 v3 v4 g1 g2 g3 g4 g5 g6 g7 g8 g9 g10 eW eE eN f1 f2 f3 f4 f5 f6 f7 f8 hc H1 H2 H3 H4
  obtain ⟨v11, v12, v13, v14, v15, v16, v17, v18⟩ := v1
  obtain ⟨v21, v22, v23, v24, v25, v26, v27, v28⟩ := v2
  obtain ⟨v31, v32, v33, v34, v35, v36, v37, v38⟩ := v3
  obtain ⟨v41, v42, v43, v44, v45, v46, v47, v48⟩ := v4
  obtain ⟨p1, p2⟩ := prod_bd (a := d3) (b := d4) (A := 1000000) (B := 5000) (by omega) (by omega) (by omega) (by omega)
  obtain ⟨p3, p4⟩ := prod_bd (a := d3) (b := d5) (A := 1000000) (B := 5000) (by omega) (by omega) (by omega) (by omega)
  simp only [Int.reduceMul, Int.reduceNeg] at p1 p2 p3 p4
  have t1 : (wt != d3 + r) = false := by simp [eW]
  have t2 : (wt % D1 != 0) = false := by simp [v17]
  have t3 : (wt % D2 != 0) = false := by simp [v27]
  have t4 : (r % D3 != 0) = false := by simp [v37]
  have t5 : (r % D4 != 0) = false := by simp [v47]
  have t6 : (N1 * (wt / D1) != d3 * d4 + N3 * (r / D3)) = false := by rw [v18, v38, ← eE]; simp
  have t7 : (N2 * (wt / D2) != d3 * d5 + N4 * (r / D4)) = false := by rw [v28, v48, ← eN]; simp
  have b1 : -300000000000 ≤ N1 * (wt / D1) ∧ N1 * (wt / D1) ≤ 300000000000 := by rw [v18]; exact ⟨f1, f2⟩
  have b2 : -300000000000 ≤ N2 * (wt / D2) ∧ N2 * (wt / D2) ≤ 300000000000 := by rw [v28]; exact ⟨f3, f4⟩
  have b3 : -300000000000 ≤ N3 * (r / D3) ∧ N3 * (r / D3) ≤ 300000000000 := by rw [v38]; exact ⟨f5, f6⟩
  have b4 : -300000000000 ≤ N4 * (r / D4) ∧ N4 * (r / D4) ≤ 300000000000 := by rw [v48]; exact ⟨f7, f8⟩
  obtain ⟨b1, b1'⟩ := b1
  obtain ⟨b2, b2'⟩ := b2
  obtain ⟨b3, b3'⟩ := b3
  obtain ⟨b4, b4'⟩ := b4
  have z1 : (D1 == 0) = false := beq_eq_false_iff_ne.2 (by omega)
  have z2 : (D2 == 0) = false := beq_eq_false_iff_ne.2 (by omega)
  have z3 : (D3 == 0) = false := beq_eq_false_iff_ne.2 (by omega)
  have z4 : (D4 == 0) = false := beq_eq_false_iff_ne.2 (by omega)
  have y1 : decide (D1 < 1) = false := decide_eq_false (by omega)
  have y2 : decide (D2 < 1) = false := decide_eq_false (by omega)
  have y3 : decide (D3 < 1) = false := decide_eq_false (by omega)
  have y4 : decide (D4 < 1) = false := decide_eq_false (by omega)
  clear v17 v18 v27 v28 v37 v38 v47 v48 eW eE eN f1 f2 f3 f4 f5 f6 f7 f8
  have q1 : decide ((60 : Int) < (n : Int)) = false := decide_eq_false (by omega)
  have q2 : decide (((k : Nat) : Int) < 0) = false := decide_eq_false (by omega)
  have q3 : decide ((n : Int) ≤ ((k : Nat) : Int)) = false := decide_eq_false (by omega)
  have H1 : Hid (∀ W, Below w.heap.size w W → _) := H1
  have H2 : Hid (∀ W, Below w.heap.size w W → _) := H2
  have H5 : Hid (∀ W, Below w.heap.size w W → _) := H5
  have H6 : Hid (∀ W, Below w.heap.size w W → _) := H6
  have HT : Hid (∀ W, Below w.heap.size w W → _) := hT
  have HC := Lib.hid hc
  clear hc hT
  have q4 : decide (((k : Nat) : Int) + 1 < (n : Int)) = true := decide_eq_true (by omega)
  have H3 : Hid (∀ W, Below w.heap.size w W → _) := H3
  have H4 : Hid (∀ W, Below w.heap.size w W → _) := H4
  go_enter Tryd.func11, Tryd.ntmps11
  (go_wp2_with fail); refine calls_after (H1.out _ (by (repeat' (first | (with_reducible exact Below.refl _ _) | (with_reducible assumption) | (with_reducible refine Below.alloc ?_ ?_ _) | (with_reducible refine Below.drew ?_) | (with_reducible refine below_drewN ?_ _) | (with_reducible refine Below.setCell ?_ ?_ _) | (with_reducible refine below_after ?_ ?_ _) | (with_reducible refine below_set ?_) | (with_reducible refine After.size_le _ ?_) | (with_reducible refine size_alloc_le ?_) | (with_reducible refine size_set_le ?_) | (with_reducible refine size_drewN_le ?_) | go_size)))) ?_; intro x1
  (go_wp2_with fail); refine calls_after2 (H2.out _ (by (repeat' (first | (with_reducible exact Below.refl _ _) | (with_reducible assumption) | (with_reducible refine Below.alloc ?_ ?_ _) | (with_reducible refine Below.drew ?_) | (with_reducible refine below_drewN ?_ _) | (with_reducible refine Below.setCell ?_ ?_ _) | (with_reducible refine below_after ?_ ?_ _) | (with_reducible refine below_set ?_) | (with_reducible refine After.size_le _ ?_) | (with_reducible refine size_alloc_le ?_) | (with_reducible refine size_set_le ?_) | (with_reducible refine size_drewN_le ?_) | go_size)))) ?_; intro x2
  (go_wp2_with fail); refine calls_after (H3.out _ (by (repeat' (first | (with_reducible exact Below.refl _ _) | (with_reducible assumption) | (with_reducible refine Below.alloc ?_ ?_ _) | (with_reducible refine Below.drew ?_) | (with_reducible refine below_drewN ?_ _) | (with_reducible refine Below.setCell ?_ ?_ _) | (with_reducible refine below_after ?_ ?_ _) | (with_reducible refine below_set ?_) | (with_reducible refine After.size_le _ ?_) | (with_reducible refine size_alloc_le ?_) | (with_reducible refine size_set_le ?_) | (with_reducible refine size_drewN_le ?_) | go_size)))) ?_; intro x3; have hz_x3 := x3.out.size; (try simp only [World.size_alloc] at hz_x3); (try simp only [World.size_setCell] at hz_x3); (try simp only [World.size_alloc] at hz_x3); have k0_x3 : x2.w.heap.size < x3.w.heap.size := (by omega); have j0_x3 : x2.w.heap.size < x3.w.heap.size + 1 := (by omega); have k1_x3 : x2.w.heap.size + 1 < x3.w.heap.size := (by omega); have j1_x3 : x2.w.heap.size + 1 < x3.w.heap.size + 1 := (by omega); have k2_x3 : x2.w.heap.size + 1 + 1 < x3.w.heap.size := (by omega); have j2_x3 : x2.w.heap.size + 1 + 1 < x3.w.heap.size + 1 := (by omega); have k3_x3 : x2.w.heap.size + 1 + 1 + 1 < x3.w.heap.size := (by omega); have j3_x3 : x2.w.heap.size + 1 + 1 + 1 < x3.w.heap.size + 1 := (by omega)
  (go_wp2_with fail); refine calls_after2 (H4.out _ (by (repeat' (first | (with_reducible exact Below.refl _ _) | (with_reducible assumption) | (with_reducible refine Below.alloc ?_ ?_ _) | (with_reducible refine Below.drew ?_) | (with_reducible refine below_drewN ?_ _) | (with_reducible refine Below.setCell ?_ ?_ _) | (with_reducible refine below_after ?_ ?_ _) | (with_reducible refine below_set ?_) | (with_reducible refine After.size_le _ ?_) | (with_reducible refine size_alloc_le ?_) | (with_reducible refine size_set_le ?_) | (with_reducible refine size_drewN_le ?_) | go_size)))) ?_; intro x4; have hz_x4 := x4.out.size; (try simp only [World.size_alloc] at hz_x4); (try simp only [World.size_setCell] at hz_x4); (try simp only [World.size_alloc] at hz_x4); have k0_x4 : x2.w.heap.size < x4.w.heap.size := (by omega); have j0_x4 : x2.w.heap.size < x4.w.heap.size + 1 := (by omega); have k1_x4 : x2.w.heap.size + 1 < x4.w.heap.size := (by omega); have j1_x4 : x2.w.heap.size + 1 < x4.w.heap.size + 1 := (by omega); have k2_x4 : x2.w.heap.size + 1 + 1 < x4.w.heap.size := (by omega); have j2_x4 : x2.w.heap.size + 1 + 1 < x4.w.heap.size + 1 := (by omega); have k3_x4 : x2.w.heap.size + 1 + 1 + 1 < x4.w.heap.size := (by omega); have j3_x4 : x2.w.heap.size + 1 + 1 + 1 < x4.w.heap.size + 1 := (by omega)
  have hx2 := x2.out.size
  have hbx : b < x2.w.heap.size := Nat.lt_of_lt_of_le hb hx2
  have hb4 : b < x4.w.heap.size := by omega
  have hb5 : b < x4.w.heap.size + 1 := by omega
  have hb6 : b < x2.w.heap.size + 1 := by omega
  have hb7 : b < x2.w.heap.size + 1 + 1 := by omega
  have hb8 : b < x2.w.heap.size + 1 + 1 + 1 := by omega
  have hb9 : b < x2.w.heap.size + 1 + 1 + 1 + 1 := by omega
  have n5 : b ≠ x4.w.heap.size := by omega
  have n1 : b ≠ x2.w.heap.size := by omega
  have n2 : b ≠ x2.w.heap.size + 1 := by omega
  have n3 : b ≠ x2.w.heap.size + 1 + 1 := by omega
  have n4 : b ≠ x2.w.heap.size + 1 + 1 + 1 := by omega
  obtain ⟨c0, c1, c2, c3, c4, c5⟩ := HC.out w (Below.refl _ w)
  clear HC
  go_wp2_with fail
  go_quiet (fail)
  go_wp2_with fail
  refine calls_after (H5.out _ (by (repeat' (first | (with_reducible exact Below.refl _ _) | (with_reducible assumption) | (with_reducible refine Below.alloc ?_ ?_ _) | (with_reducible refine Below.drew ?_) | (with_reducible refine below_drewN ?_ _) | (with_reducible refine Below.setCell ?_ ?_ _) | (with_reducible refine below_after ?_ ?_ _) | (with_reducible refine below_set ?_) | (with_reducible refine After.size_le _ ?_) | (with_reducible refine size_alloc_le ?_) | (with_reducible refine size_set_le ?_) | (with_reducible refine size_drewN_le ?_) | go_size)); all_goals (dsimp only; omega))) ?_
  intro x5
  go_wp2_with fail
  refine calls_after (H6.out _ (by (repeat' (first | (with_reducible exact Below.refl _ _) | (with_reducible assumption) | (with_reducible refine Below.alloc ?_ ?_ _) | (with_reducible refine Below.drew ?_) | (with_reducible refine below_drewN ?_ _) | (with_reducible refine Below.setCell ?_ ?_ _) | (with_reducible refine below_after ?_ ?_ _) | (with_reducible refine below_set ?_) | (with_reducible refine After.size_le _ ?_) | (with_reducible refine size_alloc_le ?_) | (with_reducible refine size_set_le ?_) | (with_reducible refine size_drewN_le ?_) | go_size)); all_goals (dsimp only; omega))) ?_
  intro x6
  have hz_x6 := x6.out.size; (try simp only [World.size_alloc] at hz_x6); (try simp only [World.size_setCell] at hz_x6); (try simp only [World.size_alloc] at hz_x6); have k0_x6 : x5.w.heap.size < x6.w.heap.size := (by omega); have j0_x6 : x5.w.heap.size < x6.w.heap.size + 1 := (by omega)
  go_wp2_with fail
  refine wp_region_after (by kernel_rfl) (by kernel_rfl) ?_; (repeat (first | go_big_quiet_step ((go_at_call 14; with_reducible exact quiet_after (HT.out _ (by (repeat' (first | (with_reducible exact Below.refl _ _) | (with_reducible assumption) | (with_reducible refine Below.alloc ?_ ?_ _) | (with_reducible refine Below.drew ?_) | (with_reducible refine below_drewN ?_ _) | (with_reducible refine Below.setCell ?_ ?_ _) | (with_reducible refine below_after ?_ ?_ _) | (with_reducible refine below_set ?_) | (with_reducible refine After.size_le _ ?_) | (with_reducible refine size_alloc_le ?_) | (with_reducible refine size_set_le ?_) | (with_reducible refine size_drewN_le ?_) | go_size)); all_goals (dsimp only; omega))))) | (refine wpQuiet_step (fun K hK => ?_); go_simp; first | (refine hK _ ?_; clear hK K) | (apply Exists.intro; refine ⟨fun x => ?_, hK _ ?_⟩; (go_at_call 14; with_reducible exact quiet_after (HT.out _ (by (repeat' (first | (with_reducible exact Below.refl _ _) | (with_reducible assumption) | (with_reducible refine Below.alloc ?_ ?_ _) | (with_reducible refine Below.drew ?_) | (with_reducible refine below_drewN ?_ _) | (with_reducible refine Below.setCell ?_ ?_ _) | (with_reducible refine below_after ?_ ?_ _) | (with_reducible refine below_set ?_) | (with_reducible refine After.size_le _ ?_) | (with_reducible refine size_alloc_le ?_) | (with_reducible refine size_set_le ?_) | (with_reducible refine size_drewN_le ?_) | go_size)); all_goals (dsimp only; omega)))); clear hK K)))); refine wpQuiet_nil ?_
  intro x7
  go_wp2
  go_ret
  exact ⟨rfl, by (repeat' (first | (with_reducible exact Below.refl _ _) | (with_reducible assumption) | (with_reducible refine Below.alloc ?_ ?_ _) | (with_reducible refine Below.drew ?_) | (with_reducible refine below_drewN ?_ _) | (with_reducible refine Below.setCell ?_ ?_ _) | (with_reducible refine below_after ?_ ?_ _) | (with_reducible refine below_set ?_) | (with_reducible refine After.size_le _ ?_) | (with_reducible refine size_alloc_le ?_) | (with_reducible refine size_set_le ?_) | (with_reducible refine size_drewN_le ?_) | go_size)); all_goals (dsimp only; omega)⟩
set_option maxRecDepth 100000 in
set_option maxHeartbeats 4000000 in
theorem stackParts_last (b off cap n k : Nat) (p N5 D5 N6 D6 : Int) (wt d0 d1 d2 d3 d4 d5 N1 D1 N2 D2 E1 E2 : Int) (w : World) (h1 : n ≤ 60) (h3 : k + 1 = n) (hb : b < w.heap.size)
    (hq : Dv wt N1 D1 E1 ∧ Dv wt N2 D2 E2 ∧ (0 ≤ d3 ∧ d3 ≤ 1000000) ∧ (-5000 ≤ d4 ∧ d4 ≤ 5000) ∧ (-5000 ≤ d5 ∧ d5 ≤ 5000) ∧ wt = d3 ∧ E1 = d3 * d4 ∧ E2 = d3 * d5)
    (hc : ∀ W, Below w.heap.size w W → W.cell? ⟨b, off + k * 6, none⟩ = some (.int .i64 d0) ∧ W.cell? ⟨b, off + k * 6 + 1, none⟩ = some (.int .i64 d1) ∧ W.cell? ⟨b, off + k * 6 + 2, none⟩ = some (.int .i64 d2) ∧ W.cell? ⟨b, off + k * 6 + 3, none⟩ = some (.int .i64 d3) ∧ W.cell? ⟨b, off + k * 6 + 4, none⟩ = some (.int .i64 d4) ∧ W.cell? ⟨b, off + k * 6 + 5, none⟩ = some (.int .i64 d5))
    (H1 : LSay w 19 #[.slice (some ⟨b, off, none⟩) n cap, .int .i64 (k : Nat)] (.tuple #[.int .i64 wt, .int .i64 0]))
    (H2 : LSay w 21 #[.slice (some ⟨b, off, none⟩) n cap, .int .i64 (k : Nat)] (.tuple #[.agg #[.int .i64 N1, .int .i64 D1], .agg #[.int .i64 N2, .int .i64 D2], .int .i64 0]))
    (H5 : LSay w 25 #[.slice (some ⟨b, off, none⟩) n cap, .int .i64 (k : Nat), .int .i64 1] (.tuple #[.agg #[.int .i64 N5, .int .i64 D5], .int .i64 0]))
    (H6 : LSay w 25 #[.slice (some ⟨b, off, none⟩) n cap, .int .i64 (k : Nat), .int .i64 p] (.tuple #[.agg #[.int .i64 N6, .int .i64 D6], .int .i64 0]))
    (H7 : ∀ W, Calls Tryd.prog 53 #[.int .i64 (N5 * p), .int .i64 D5] W fun e w' => e = .returned (.agg #[.int .i64 N6, .int .i64 D6]) ∧ Below W.heap.size W w')
    (hp : (-2000000000000000000 ≤ N5 * p ∧ N5 * p ≤ 2000000000000000000) ∧ 1 ≤ D5 ∧ 1 ≤ D6)
    (hT : ∀ W, Below w.heap.size w W → Calls Tryd.prog 14 #[] W fun e w' => e = .returned (.bool true) ∧ Below W.heap.size W w') :
    Calls Tryd.prog 11 #[.slice (some ⟨b, off, none⟩) n cap, .int .i64 (k : Nat), .int .i64 p] w fun e w' => e = .returned (.bool true) ∧ Below w.heap.size w w' := by
  obtain ⟨v1, v2, ⟨g1, g2⟩, ⟨g3, g4⟩, ⟨g5, g6⟩, eW, eE, eN⟩ := hq
  obtain ⟨v11, v12, v13, v14, v15, v16, v17, v18⟩ := v1
  obtain ⟨v21, v22, v23, v24, v25, v26, v27, v28⟩ := v2
  obtain ⟨p1, p2⟩ := prod_bd (a := d3) (b := d4) (A := 1000000) (B := 5000) (by omega) (by omega) (by omega) (by omega)
  obtain ⟨p3, p4⟩ := prod_bd (a := d3) (b := d5) (A := 1000000) (B := 5000) (by omega) (by omega) (by omega) (by omega)
  simp only [Int.reduceMul, Int.reduceNeg] at p1 p2 p3 p4
  have g9 : 0 ≤ wt := by omega
  have g10 : wt ≤ 60000000 := by omega
  have t1 : (wt != d3) = false := by simp [eW]
  have t2 : (wt % D1 != 0) = false := by simp [v17]
  have t3 : (wt % D2 != 0) = false := by simp [v27]
  have t6 : (N1 * (wt / D1) != d3 * d4) = false := by rw [v18, ← eE]; simp
  have t7 : (N2 * (wt / D2) != d3 * d5) = false := by rw [v28, ← eN]; simp
  have b1 : -5000000000 ≤ N1 * (wt / D1) ∧ N1 * (wt / D1) ≤ 5000000000 := by rw [v18, eE]; omega
  have b2 : -5000000000 ≤ N2 * (wt / D2) ∧ N2 * (wt / D2) ≤ 5000000000 := by rw [v28, eN]; omega
  obtain ⟨b1, b1'⟩ := b1
  obtain ⟨b2, b2'⟩ := b2
  have z1 : (D1 == 0) = false := beq_eq_false_iff_ne.2 (by omega)
  have z2 : (D2 == 0) = false := beq_eq_false_iff_ne.2 (by omega)
  have y1 : decide (D1 < 1) = false := decide_eq_false (by omega)
  have y2 : decide (D2 < 1) = false := decide_eq_false (by omega)
  clear v17 v18 v27 v28 eW eE eN
  have q1 : decide ((60 : Int) < (n : Int)) = false := decide_eq_false (by omega)
  have q2 : decide (((k : Nat) : Int) < 0) = false := decide_eq_false (by omega)
  have q3 : decide ((n : Int) ≤ ((k : Nat) : Int)) = false := decide_eq_false (by omega)
  have H1 : Hid (∀ W, Below w.heap.size w W → _) := H1
  have H2 : Hid (∀ W, Below w.heap.size w W → _) := H2
  have H5 : Hid (∀ W, Below w.heap.size w W → _) := H5
  have H6 : Hid (∀ W, Below w.heap.size w W → _) := H6
  have HT : Hid (∀ W, Below w.heap.size w W → _) := hT
  have HC := Lib.hid hc
  clear hc hT
  have H7 := Lib.hid H7
  obtain ⟨⟨hp1, hp2⟩, hp3, hp4⟩ := hp
  have y5 : decide (1 ≤ D5) = true := decide_eq_true hp3
  have y6 : decide (1 ≤ D6) = true := decide_eq_true hp4
  have q4 : decide (((k : Nat) : Int) + 1 < (n : Int)) = false := decide_eq_false (by omega)
  go_enter Tryd.func11, Tryd.ntmps11
  (go_wp2_with fail); refine calls_after (H1.out _ (by (repeat' (first | (with_reducible exact Below.refl _ _) | (with_reducible assumption) | (with_reducible refine Below.alloc ?_ ?_ _) | (with_reducible refine Below.drew ?_) | (with_reducible refine below_drewN ?_ _) | (with_reducible refine Below.setCell ?_ ?_ _) | (with_reducible refine below_after ?_ ?_ _) | (with_reducible refine below_set ?_) | (with_reducible refine After.size_le _ ?_) | (with_reducible refine size_alloc_le ?_) | (with_reducible refine size_set_le ?_) | (with_reducible refine size_drewN_le ?_) | go_size)))) ?_; intro x1
  (go_wp2_with fail); refine calls_after2 (H2.out _ (by (repeat' (first | (with_reducible exact Below.refl _ _) | (with_reducible assumption) | (with_reducible refine Below.alloc ?_ ?_ _) | (with_reducible refine Below.drew ?_) | (with_reducible refine below_drewN ?_ _) | (with_reducible refine Below.setCell ?_ ?_ _) | (with_reducible refine below_after ?_ ?_ _) | (with_reducible refine below_set ?_) | (with_reducible refine After.size_le _ ?_) | (with_reducible refine size_alloc_le ?_) | (with_reducible refine size_set_le ?_) | (with_reducible refine size_drewN_le ?_) | go_size)))) ?_; intro x2
  have hx2 := x2.out.size
  have hbx : b < x2.w.heap.size := Nat.lt_of_lt_of_le hb hx2
  have hb6 : b < x2.w.heap.size + 1 := by omega
  have hb7 : b < x2.w.heap.size + 1 + 1 := by omega
  have hb8 : b < x2.w.heap.size + 1 + 1 + 1 := by omega
  have hb9 : b < x2.w.heap.size + 1 + 1 + 1 + 1 := by omega
  have n1 : b ≠ x2.w.heap.size := by omega
  have n2 : b ≠ x2.w.heap.size + 1 := by omega
  have n3 : b ≠ x2.w.heap.size + 1 + 1 := by omega
  have n4 : b ≠ x2.w.heap.size + 1 + 1 + 1 := by omega
  have n5 : b ≠ x2.w.heap.size + 1 + 1 + 1 + 1 := by omega
  obtain ⟨c0, c1, c2, c3, c4, c5⟩ := HC.out w (Below.refl _ w)
  clear HC
  go_wp2_with fail
  go_quiet (fail)
  go_wp2_with fail
  refine calls_after (H5.out _ (by (repeat' (first | (with_reducible exact Below.refl _ _) | (with_reducible assumption) | (with_reducible refine Below.alloc ?_ ?_ _) | (with_reducible refine Below.drew ?_) | (with_reducible refine below_drewN ?_ _) | (with_reducible refine Below.setCell ?_ ?_ _) | (with_reducible refine below_after ?_ ?_ _) | (with_reducible refine below_set ?_) | (with_reducible refine After.size_le _ ?_) | (with_reducible refine size_alloc_le ?_) | (with_reducible refine size_set_le ?_) | (with_reducible refine size_drewN_le ?_) | go_size)); all_goals (dsimp only; omega))) ?_
  intro x5
  go_wp2_with fail
  refine calls_after (H6.out _ (by (repeat' (first | (with_reducible exact Below.refl _ _) | (with_reducible assumption) | (with_reducible refine Below.alloc ?_ ?_ _) | (with_reducible refine Below.drew ?_) | (with_reducible refine below_drewN ?_ _) | (with_reducible refine Below.setCell ?_ ?_ _) | (with_reducible refine below_after ?_ ?_ _) | (with_reducible refine below_set ?_) | (with_reducible refine After.size_le _ ?_) | (with_reducible refine size_alloc_le ?_) | (with_reducible refine size_set_le ?_) | (with_reducible refine size_drewN_le ?_) | go_size)); all_goals (dsimp only; omega))) ?_
  intro x6
  have hz_x6 := x6.out.size; (try simp only [World.size_alloc] at hz_x6); (try simp only [World.size_setCell] at hz_x6); (try simp only [World.size_alloc] at hz_x6); have k0_x6 : x5.w.heap.size < x6.w.heap.size := (by omega); have j0_x6 : x5.w.heap.size < x6.w.heap.size + 1 := (by omega)
  go_wp2_with fail
  refine wp_region_after (by kernel_rfl) (by kernel_rfl) ?_; (repeat (first | go_big_quiet_step ((first | (go_at_call 53; with_reducible exact quiet_after (H7.out _)) | (go_at_call 14; with_reducible exact quiet_after (HT.out _ (by (repeat' (first | (with_reducible exact Below.refl _ _) | (with_reducible assumption) | (with_reducible refine Below.alloc ?_ ?_ _) | (with_reducible refine Below.drew ?_) | (with_reducible refine below_drewN ?_ _) | (with_reducible refine Below.setCell ?_ ?_ _) | (with_reducible refine below_after ?_ ?_ _) | (with_reducible refine below_set ?_) | (with_reducible refine After.size_le _ ?_) | (with_reducible refine size_alloc_le ?_) | (with_reducible refine size_set_le ?_) | (with_reducible refine size_drewN_le ?_) | go_size)); all_goals (dsimp only; omega)))))) | (refine wpQuiet_step (fun K hK => ?_); go_simp; first | (refine hK _ ?_; clear hK K) | (apply Exists.intro; refine ⟨fun x => ?_, hK _ ?_⟩; (first | (go_at_call 53; with_reducible exact quiet_after (H7.out _)) | (go_at_call 14; with_reducible exact quiet_after (HT.out _ (by (repeat' (first | (with_reducible exact Below.refl _ _) | (with_reducible assumption) | (with_reducible refine Below.alloc ?_ ?_ _) | (with_reducible refine Below.drew ?_) | (with_reducible refine below_drewN ?_ _) | (with_reducible refine Below.setCell ?_ ?_ _) | (with_reducible refine below_after ?_ ?_ _) | (with_reducible refine below_set ?_) | (with_reducible refine After.size_le _ ?_) | (with_reducible refine size_alloc_le ?_) | (with_reducible refine size_set_le ?_) | (with_reducible refine size_drewN_le ?_) | go_size)); all_goals (dsimp only; omega))))); clear hK K)))); refine wpQuiet_nil ?_
  intro x7
  go_wp2
  go_ret
  exact ⟨rfl, by (repeat' (first | (with_reducible exact Below.refl _ _) | (with_reducible assumption) | (with_reducible refine Below.alloc ?_ ?_ _) | (with_reducible refine Below.drew ?_) | (with_reducible refine below_drewN ?_ _) | (with_reducible refine Below.setCell ?_ ?_ _) | (with_reducible refine below_after ?_ ?_ _) | (with_reducible refine below_set ?_) | (with_reducible refine After.size_le _ ?_) | (with_reducible refine size_alloc_le ?_) | (with_reducible refine size_set_le ?_) | (with_reducible refine size_drewN_le ?_) | go_size)); all_goals (dsimp only; omega)⟩
set_option maxRecDepth 100000 in
set_option maxHeartbeats 4000000 in
theorem stackParts_last0 (b off cap n k : Nat) (p N5 D5 e6 : Int) (wt d0 d1 d2 d3 d4 d5 N1 D1 N2 D2 E1 E2 : Int) (w : World) (h1 : n ≤ 60) (h3 : k + 1 = n) (hb : b < w.heap.size)
    (hq : Dv wt N1 D1 E1 ∧ Dv wt N2 D2 E2 ∧ (0 ≤ d3 ∧ d3 ≤ 1000000) ∧ (-5000 ≤ d4 ∧ d4 ≤ 5000) ∧ (-5000 ≤ d5 ∧ d5 ≤ 5000) ∧ wt = d3 ∧ E1 = d3 * d4 ∧ E2 = d3 * d5)
    (hc : ∀ W, Below w.heap.size w W → W.cell? ⟨b, off + k * 6, none⟩ = some (.int .i64 d0) ∧ W.cell? ⟨b, off + k * 6 + 1, none⟩ = some (.int .i64 d1) ∧ W.cell? ⟨b, off + k * 6 + 2, none⟩ = some (.int .i64 d2) ∧ W.cell? ⟨b, off + k * 6 + 3, none⟩ = some (.int .i64 d3) ∧ W.cell? ⟨b, off + k * 6 + 4, none⟩ = some (.int .i64 d4) ∧ W.cell? ⟨b, off + k * 6 + 5, none⟩ = some (.int .i64 d5))
    (H1 : LSay w 19 #[.slice (some ⟨b, off, none⟩) n cap, .int .i64 (k : Nat)] (.tuple #[.int .i64 wt, .int .i64 0]))
    (H2 : LSay w 21 #[.slice (some ⟨b, off, none⟩) n cap, .int .i64 (k : Nat)] (.tuple #[.agg #[.int .i64 N1, .int .i64 D1], .agg #[.int .i64 N2, .int .i64 D2], .int .i64 0]))
    (H5 : LSay w 25 #[.slice (some ⟨b, off, none⟩) n cap, .int .i64 (k : Nat), .int .i64 1] (.tuple #[.agg #[.int .i64 N5, .int .i64 D5], .int .i64 0]))
    (H6 : LSay w 25 #[.slice (some ⟨b, off, none⟩) n cap, .int .i64 (k : Nat), .int .i64 p] (.tuple #[.agg #[.int .i64 0, .int .i64 0], .int .i64 e6])) (he : (e6 != 0) = true)
    (hT : ∀ W, Below w.heap.size w W → Calls Tryd.prog 14 #[] W fun e w' => e = .returned (.bool true) ∧ Below W.heap.size W w') :
    Calls Tryd.prog 11 #[.slice (some ⟨b, off, none⟩) n cap, .int .i64 (k : Nat), .int .i64 p] w fun e w' => e = .returned (.bool true) ∧ Below w.heap.size w w' := by
  obtain ⟨v1, v2, ⟨g1, g2⟩, ⟨g3, g4⟩, ⟨g5, g6⟩, eW, eE, eN⟩ := hq
  obtain ⟨v11, v12, v13, v14, v15, v16, v17, v18⟩ := v1
  obtain ⟨v21, v22, v23, v24, v25, v26, v27, v28⟩ := v2
  obtain ⟨p1, p2⟩ := prod_bd (a := d3) (b := d4) (A := 1000000) (B := 5000) (by omega) (by omega) (by omega) (by omega)
  obtain ⟨p3, p4⟩ := prod_bd (a := d3) (b := d5) (A := 1000000) (B := 5000) (by omega) (by omega) (by omega) (by omega)
  simp only [Int.reduceMul, Int.reduceNeg] at p1 p2 p3 p4
  have g9 : 0 ≤ wt := by omega
  have g10 : wt ≤ 60000000 := by omega
  have t1 : (wt != d3) = false := by simp [eW]
  have t2 : (wt % D1 != 0) = false := by simp [v17]
  have t3 : (wt % D2 != 0) = false := by simp [v27]
  have t6 : (N1 * (wt / D1) != d3 * d4) = false := by rw [v18, ← eE]; simp
  have t7 : (N2 * (wt / D2) != d3 * d5) = false := by rw [v28, ← eN]; simp
  have b1 : -5000000000 ≤ N1 * (wt / D1) ∧ N1 * (wt / D1) ≤ 5000000000 := by rw [v18, eE]; omega
  have b2 : -5000000000 ≤ N2 * (wt / D2) ∧ N2 * (wt / D2) ≤ 5000000000 := by rw [v28, eN]; omega
  obtain ⟨b1, b1'⟩ := b1
  obtain ⟨b2, b2'⟩ := b2
  have z1 : (D1 == 0) = false := beq_eq_false_iff_ne.2 (by omega)
  have z2 : (D2 == 0) = false := beq_eq_false_iff_ne.2 (by omega)
  have y1 : decide (D1 < 1) = false := decide_eq_false (by omega)
  have y2 : decide (D2 < 1) = false := decide_eq_false (by omega)
  clear v17 v18 v27 v28 eW eE eN
  have q1 : decide ((60 : Int) < (n : Int)) = false := decide_eq_false (by omega)
  have q2 : decide (((k : Nat) : Int) < 0) = false := decide_eq_false (by omega)
  have q3 : decide ((n : Int) ≤ ((k : Nat) : Int)) = false := decide_eq_false (by omega)
  have H1 : Hid (∀ W, Below w.heap.size w W → _) := H1
  have H2 : Hid (∀ W, Below w.heap.size w W → _) := H2
  have H5 : Hid (∀ W, Below w.heap.size w W → _) := H5
  have H6 : Hid (∀ W, Below w.heap.size w W → _) := H6
  have HT : Hid (∀ W, Below w.heap.size w W → _) := hT
  have HC := Lib.hid hc
  clear hc hT
  have q4 : decide (((k : Nat) : Int) + 1 < (n : Int)) = false := decide_eq_false (by omega)
  go_enter Tryd.func11, Tryd.ntmps11
  (go_wp2_with fail); refine calls_after (H1.out _ (by (repeat' (first | (with_reducible exact Below.refl _ _) | (with_reducible assumption) | (with_reducible refine Below.alloc ?_ ?_ _) | (with_reducible refine Below.drew ?_) | (with_reducible refine below_drewN ?_ _) | (with_reducible refine Below.setCell ?_ ?_ _) | (with_reducible refine below_after ?_ ?_ _) | (with_reducible refine below_set ?_) | (with_reducible refine After.size_le _ ?_) | (with_reducible refine size_alloc_le ?_) | (with_reducible refine size_set_le ?_) | (with_reducible refine size_drewN_le ?_) | go_size)))) ?_; intro x1
  (go_wp2_with fail); refine calls_after2 (H2.out _ (by (repeat' (first | (with_reducible exact Below.refl _ _) | (with_reducible assumption) | (with_reducible refine Below.alloc ?_ ?_ _) | (with_reducible refine Below.drew ?_) | (with_reducible refine below_drewN ?_ _) | (with_reducible refine Below.setCell ?_ ?_ _) | (with_reducible refine below_after ?_ ?_ _) | (with_reducible refine below_set ?_) | (with_reducible refine After.size_le _ ?_) | (with_reducible refine size_alloc_le ?_) | (with_reducible refine size_set_le ?_) | (with_reducible refine size_drewN_le ?_) | go_size)))) ?_; intro x2
  have hx2 := x2.out.size
  have hbx : b < x2.w.heap.size := Nat.lt_of_lt_of_le hb hx2
  have hb6 : b < x2.w.heap.size + 1 := by omega
  have hb7 : b < x2.w.heap.size + 1 + 1 := by omega
  have hb8 : b < x2.w.heap.size + 1 + 1 + 1 := by omega
  have hb9 : b < x2.w.heap.size + 1 + 1 + 1 + 1 := by omega
  have n1 : b ≠ x2.w.heap.size := by omega
  have n2 : b ≠ x2.w.heap.size + 1 := by omega
  have n3 : b ≠ x2.w.heap.size + 1 + 1 := by omega
  have n4 : b ≠ x2.w.heap.size + 1 + 1 + 1 := by omega
  have n5 : b ≠ x2.w.heap.size + 1 + 1 + 1 + 1 := by omega
  obtain ⟨c0, c1, c2, c3, c4, c5⟩ := HC.out w (Below.refl _ w)
  clear HC
  go_wp2_with fail
  go_quiet (fail)
  go_wp2_with fail
  refine calls_after (H5.out _ (by (repeat' (first | (with_reducible exact Below.refl _ _) | (with_reducible assumption) | (with_reducible refine Below.alloc ?_ ?_ _) | (with_reducible refine Below.drew ?_) | (with_reducible refine below_drewN ?_ _) | (with_reducible refine Below.setCell ?_ ?_ _) | (with_reducible refine below_after ?_ ?_ _) | (with_reducible refine below_set ?_) | (with_reducible refine After.size_le _ ?_) | (with_reducible refine size_alloc_le ?_) | (with_reducible refine size_set_le ?_) | (with_reducible refine size_drewN_le ?_) | go_size)); all_goals (dsimp only; omega))) ?_
  intro x5
  go_wp2_with fail
  refine calls_after (H6.out _ (by (repeat' (first | (with_reducible exact Below.refl _ _) | (with_reducible assumption) | (with_reducible refine Below.alloc ?_ ?_ _) | (with_reducible refine Below.drew ?_) | (with_reducible refine below_drewN ?_ _) | (with_reducible refine Below.setCell ?_ ?_ _) | (with_reducible refine below_after ?_ ?_ _) | (with_reducible refine below_set ?_) | (with_reducible refine After.size_le _ ?_) | (with_reducible refine size_alloc_le ?_) | (with_reducible refine size_set_le ?_) | (with_reducible refine size_drewN_le ?_) | go_size)); all_goals (dsimp only; omega))) ?_
  intro x6
  have hz_x6 := x6.out.size; (try simp only [World.size_alloc] at hz_x6); (try simp only [World.size_setCell] at hz_x6); (try simp only [World.size_alloc] at hz_x6); have k0_x6 : x5.w.heap.size < x6.w.heap.size := (by omega); have j0_x6 : x5.w.heap.size < x6.w.heap.size + 1 := (by omega)
  go_wp2_with fail
  refine wp_region_after (by kernel_rfl) (by kernel_rfl) ?_; (repeat (first | go_big_quiet_step ((go_at_call 14; with_reducible exact quiet_after (HT.out _ (by (repeat' (first | (with_reducible exact Below.refl _ _) | (with_reducible assumption) | (with_reducible refine Below.alloc ?_ ?_ _) | (with_reducible refine Below.drew ?_) | (with_reducible refine below_drewN ?_ _) | (with_reducible refine Below.setCell ?_ ?_ _) | (with_reducible refine below_after ?_ ?_ _) | (with_reducible refine below_set ?_) | (with_reducible refine After.size_le _ ?_) | (with_reducible refine size_alloc_le ?_) | (with_reducible refine size_set_le ?_) | (with_reducible refine size_drewN_le ?_) | go_size)); all_goals (dsimp only; omega))))) | (refine wpQuiet_step (fun K hK => ?_); go_simp; first | (refine hK _ ?_; clear hK K) | (apply Exists.intro; refine ⟨fun x => ?_, hK _ ?_⟩; (go_at_call 14; with_reducible exact quiet_after (HT.out _ (by (repeat' (first | (with_reducible exact Below.refl _ _) | (with_reducible assumption) | (with_reducible refine Below.alloc ?_ ?_ _) | (with_reducible refine Below.drew ?_) | (with_reducible refine below_drewN ?_ _) | (with_reducible refine Below.setCell ?_ ?_ _) | (with_reducible refine below_after ?_ ?_ _) | (with_reducible refine below_set ?_) | (with_reducible refine After.size_le _ ?_) | (with_reducible refine size_alloc_le ?_) | (with_reducible refine size_set_le ?_) | (with_reducible refine size_drewN_le ?_) | go_size)); all_goals (dsimp only; omega)))); clear hK K)))); refine wpQuiet_nil ?_
  intro x7
  go_wp2
  go_ret
  exact ⟨rfl, by (repeat' (first | (with_reducible exact Below.refl _ _) | (with_reducible assumption) | (with_reducible refine Below.alloc ?_ ?_ _) | (with_reducible refine Below.drew ?_) | (with_reducible refine below_drewN ?_ _) | (with_reducible refine Below.setCell ?_ ?_ _) | (with_reducible refine below_after ?_ ?_ _) | (with_reducible refine below_set ?_) | (with_reducible refine After.size_le _ ?_) | (with_reducible refine size_alloc_le ?_) | (with_reducible refine size_set_le ?_) | (with_reducible refine size_drewN_le ?_) | go_size)); all_goals (dsimp only; omega)⟩
end Go.Proofs.YtnlcfejjehhedaaDoor
