/- LeanRaises: the law's walk. -/
import Derived.Test.YtdhobjflfhijjaaRaise
import Derived.Test.YtdhobjflfhijjaaLawNearest
import Derived.Test.YtdhobjflfhijjaaSame
namespace Go.Proofs.Ytdhobjflfhijjaa
open Go.RowKit
attribute [local go_sem 10000] eql_line neq_line eql_ratio neq_ratio
attribute [local go_sem] After.cell After.frozen After.lt After.le After.ne After.ne' After.set_eq After.size_set After.lt_add eq3_self eq2_self

theorem ptRow_below {W W' : World} {B : Nat} {v : Value} {n : Nat} {f : Nat → Nat → Int} (h : PtRow W B v n f) (hb : Below W.heap.size W W') : PtRow W' B v n f := by
  obtain ⟨g, cap, e, h1, h2, h3⟩ := h
  exact ⟨g, cap, e, h1, Nat.lt_of_lt_of_le h2 hb.size, fun i hi => ⟨(hb.cell (p := ⟨g, _, none⟩) h2).trans (h3 i hi).1, (hb.cell (p := ⟨g, _, none⟩) h2).trans (h3 i hi).2⟩⟩
theorem samePt_own {W : World} {B B' : Nat} {v v' : Value} {n : Nat} {f : Nat → Nat → Int} (h : PtRow W B v n f) (h' : PtRow W B' v' n f) (hn : n ≤ 1000) :
    Calls Try.prog 18 #[v, v'] W fun e w' => e = .returned (.bool true) ∧ Below W.heap.size W w' := by
  obtain ⟨g, cap, rfl, _, h2, h3⟩ := h
  obtain ⟨g', cap', rfl, _, h2', h3'⟩ := h'
  exact samePoints_row g g' n cap cap' f W h2 h2' hn h3 h3'

/-- What a call of Raised answers. -/
abbrev RzAns (fn : FuncId) (w : World) (v : Value) (a b d : Int) (R : World → World → Ending → Prop) : Prop :=
  ∀ W, Below w.heap.size w W → Calls Try.prog fn #[v, .agg #[.int .i64 a, .int .i64 b, .int .i64 d]] W fun e w' => R W w' e ∧ Below W.heap.size W w'
abbrev RzOk (n : Nat) (F : Nat → Nat → Int) : World → World → Ending → Prop := fun W w' e => ∃ v, e = .returned (.tuple #[v, .int .i64 0]) ∧ PtRow w' W.heap.size v n F
abbrev RzErr (c : Int) : World → World → Ending → Prop := fun _ _ e => e = .returned (.tuple #[.slice none 0 0, .int .i64 c])

set_option maxRecDepth 100000 in
set_option maxHeartbeats 1000000 in
theorem leanRaises_long (ad : Option Addr) (n cap : Nat) (a b d : Int) (w : World) (hn : 100 < n) :
    Calls Try.prog 11 #[.slice ad n cap, .agg #[.int .i64 a, .int .i64 b, .int .i64 d]] w fun e w' => e = .returned (.bool true) ∧ Below w.heap.size w w' := by
  go_enter Try.func11, Try.ntmps11
  (go_wp2_with fail); refine calls_after (awake_any _) ?_; intro x1
  go_wp2
  go_ret
  exact ⟨rfl, by (repeat' (first | (with_reducible exact Below.refl _ _) | (with_reducible assumption) | (with_reducible refine Below.alloc ?_ ?_ _) | (with_reducible refine Below.drew ?_) | (with_reducible refine below_drewN ?_ _) | (with_reducible refine Below.setCell ?_ ?_ _) | (with_reducible refine below_after ?_ ?_ _) | (with_reducible refine below_set ?_) | (with_reducible refine After.size_le _ ?_) | (with_reducible refine size_alloc_le ?_) | (with_reducible refine size_set_le ?_) | (with_reducible refine size_drewN_le ?_) | go_size))⟩
set_option maxRecDepth 100000 in
set_option maxHeartbeats 1000000 in
theorem leanRaises_err (ad : Option Addr) (n cap : Nat) (a b d c : Int) (w : World) (hn : n ≤ 100) (hc : c ≠ 0)
    (HA : Hid (RzAns 49 w (.slice ad n cap) a b d (RzErr c))) (HB : Hid (RzAns 50 w (.slice ad n cap) a b d (RzErr c))) :
    Calls Try.prog 11 #[.slice ad n cap, .agg #[.int .i64 a, .int .i64 b, .int .i64 d]] w fun e w' => e = .returned (.bool true) ∧ Below w.heap.size w w' := by
  have hnn : decide (100 < (n : Int)) = false := by simp; omega
  go_enter Try.func11, Try.ntmps11
  (go_wp2_with fail); refine calls_after (HA.out _ (by (repeat' (first | (with_reducible exact Below.refl _ _) | (with_reducible assumption) | (with_reducible refine Below.alloc ?_ ?_ _) | (with_reducible refine Below.drew ?_) | (with_reducible refine below_drewN ?_ _) | (with_reducible refine Below.setCell ?_ ?_ _) | (with_reducible refine below_after ?_ ?_ _) | (with_reducible refine below_set ?_) | (with_reducible refine After.size_le _ ?_) | (with_reducible refine size_alloc_le ?_) | (with_reducible refine size_set_le ?_) | (with_reducible refine size_drewN_le ?_) | go_size)))) ?_; intro x1; have hz_x1 := x1.out.size; (try simp only [World.size_alloc] at hz_x1); (try simp only [World.size_setCell] at hz_x1); have k0_x1 : w.heap.size < x1.w.heap.size := (by omega); have j0_x1 : w.heap.size < x1.w.heap.size + 1 := (by omega)
  (go_wp2_with fail); refine calls_after (HB.out _ (by (repeat' (first | (with_reducible exact Below.refl _ _) | (with_reducible assumption) | (with_reducible refine Below.alloc ?_ ?_ _) | (with_reducible refine Below.drew ?_) | (with_reducible refine below_drewN ?_ _) | (with_reducible refine Below.setCell ?_ ?_ _) | (with_reducible refine below_after ?_ ?_ _) | (with_reducible refine below_set ?_) | (with_reducible refine After.size_le _ ?_) | (with_reducible refine size_alloc_le ?_) | (with_reducible refine size_set_le ?_) | (with_reducible refine size_drewN_le ?_) | go_size)))) ?_; intro x2; have hz_x2 := x2.out.size; (try simp only [World.size_alloc] at hz_x2); (try simp only [World.size_setCell] at hz_x2); have k0_x2 : w.heap.size < x2.w.heap.size := (by omega); have j0_x2 : w.heap.size < x2.w.heap.size + 1 := (by omega)
  (go_wp2_with fail); refine calls_after (samePoints_nil _ _ _ _ _) ?_; intro x3
  (go_wp2_with fail); refine calls_after (awake_any _) ?_; intro x4
  go_wp2
  go_ret
  exact ⟨rfl, by (repeat' (first | (with_reducible exact Below.refl _ _) | (with_reducible assumption) | (with_reducible refine Below.alloc ?_ ?_ _) | (with_reducible refine Below.drew ?_) | (with_reducible refine below_drewN ?_ _) | (with_reducible refine Below.setCell ?_ ?_ _) | (with_reducible refine below_after ?_ ?_ _) | (with_reducible refine below_set ?_) | (with_reducible refine After.size_le _ ?_) | (with_reducible refine size_alloc_le ?_) | (with_reducible refine size_set_le ?_) | (with_reducible refine size_drewN_le ?_) | go_size))⟩

/-- A line of whole numbers that the law looks at. -/
def Small (a b d : Int) : Prop := d = 1 ∧ -10000000000 ≤ a ∧ a ≤ 10000000000 ∧ -1000000 ≤ b ∧ b ≤ 1000000
set_option maxRecDepth 100000 in
set_option maxHeartbeats 1000000 in
theorem leanRaises_big (ad : Option Addr) (n cap : Nat) (a b d : Int) (F : Nat → Nat → Int) (w : World) (hn : n ≤ 100) (hS : ¬ Small a b d)
    (HA : Hid (RzAns 49 w (.slice ad n cap) a b d (RzOk n F))) (HB : Hid (RzAns 50 w (.slice ad n cap) a b d (RzOk n F))) :
    Calls Try.prog 11 #[.slice ad n cap, .agg #[.int .i64 a, .int .i64 b, .int .i64 d]] w fun e w' => e = .returned (.bool true) ∧ Below w.heap.size w w' := by
  have hnn : decide (100 < (n : Int)) = false := by simp; omega
  have hn1 : n ≤ 1000 := by omega
  go_enter Try.func11, Try.ntmps11
  have hl0 : LineAt (w.alloc (.cells #[.int .i64 a, .int .i64 b, .int .i64 d] 35)) w.heap.size a b d := ⟨by simp, by simp [go_sem], by simp [go_sem], by simp [go_sem]⟩
  have hB0 : Below w.heap.size w (w.alloc (.cells #[.int .i64 a, .int .i64 b, .int .i64 d] 35)) := (Below.refl _ w).alloc (Nat.le_refl _) _
  go_wp2_with fail
  refine (HA.out _ hB0).mono ?_
  rintro e w1 ⟨⟨v1, rfl, hr1⟩, hb1⟩
  have hl1 := hl0.below hb1
  have hB1 := hB0.trans (hb1.mono hB0.size)
  have HR1 := Lib.hid hr1
  clear hr1 hb1 hB0 hl0
  obtain ⟨l0, l1, l2, l3⟩ := hl1
  go_wp2_with fail
  refine (HB.out _ hB1).mono ?_
  rintro e w2 ⟨⟨v2, rfl, hr2⟩, hb2⟩
  have hl2 := (show LineAt w1 w.heap.size a b d from ⟨l0, l1, l2, l3⟩).below hb2
  have hB2 := hB1.trans (hb2.mono hB1.size)
  have HS := Lib.hid (samePt_own (ptRow_below HR1.out hb2) hr2 hn1)
  clear hr2 HR1 hb2 hB1 l0 l1 l2 l3 HA HB
  have HL := Lib.hid hl2
  clear hl2
  go_wp2_with fail
  refine HS.out.mono ?_
  rintro e w3 ⟨rfl, hb3⟩
  obtain ⟨l0, l1, l2, l3⟩ := HL.out.below hb3
  have hB3 := hB2.trans (hb3.mono hB2.size)
  clear HS HL hb3 hB2
  unfold Small at hS
  by_cases s1 : d = 1
  · subst s1
    by_cases s2 : a < -10000000000
    · (go_wp2_with fail); refine calls_after (awake_any _) ?_; intro x4
      go_wp2
      go_ret
      exact ⟨rfl, by (repeat' (first | (with_reducible exact Below.refl _ _) | (with_reducible assumption) | (with_reducible refine Below.alloc ?_ ?_ _) | (with_reducible refine Below.drew ?_) | (with_reducible refine below_drewN ?_ _) | (with_reducible refine Below.setCell ?_ ?_ _) | (with_reducible refine below_after ?_ ?_ _) | (with_reducible refine below_set ?_) | (with_reducible refine After.size_le _ ?_) | (with_reducible refine size_alloc_le ?_) | (with_reducible refine size_set_le ?_) | (with_reducible refine size_drewN_le ?_) | go_size))⟩
    · have d2 : decide (a < -10000000000) = false := by simp; omega
      by_cases s3 : 10000000000 < a
      · (go_wp2_with fail); refine calls_after (awake_any _) ?_; intro x4
        go_wp2
        go_ret
        exact ⟨rfl, by (repeat' (first | (with_reducible exact Below.refl _ _) | (with_reducible assumption) | (with_reducible refine Below.alloc ?_ ?_ _) | (with_reducible refine Below.drew ?_) | (with_reducible refine below_drewN ?_ _) | (with_reducible refine Below.setCell ?_ ?_ _) | (with_reducible refine below_after ?_ ?_ _) | (with_reducible refine below_set ?_) | (with_reducible refine After.size_le _ ?_) | (with_reducible refine size_alloc_le ?_) | (with_reducible refine size_set_le ?_) | (with_reducible refine size_drewN_le ?_) | go_size))⟩
      · have d3 : decide (10000000000 < a) = false := by simp; omega
        by_cases s4 : b < -1000000
        · (go_wp2_with fail); refine calls_after (awake_any _) ?_; intro x4
          go_wp2
          go_ret
          exact ⟨rfl, by (repeat' (first | (with_reducible exact Below.refl _ _) | (with_reducible assumption) | (with_reducible refine Below.alloc ?_ ?_ _) | (with_reducible refine Below.drew ?_) | (with_reducible refine below_drewN ?_ _) | (with_reducible refine Below.setCell ?_ ?_ _) | (with_reducible refine below_after ?_ ?_ _) | (with_reducible refine below_set ?_) | (with_reducible refine After.size_le _ ?_) | (with_reducible refine size_alloc_le ?_) | (with_reducible refine size_set_le ?_) | (with_reducible refine size_drewN_le ?_) | go_size))⟩
        · have d4 : decide (b < -1000000) = false := by simp; omega
          have s5 : 1000000 < b := by omega
          (go_wp2_with fail); refine calls_after (awake_any _) ?_; intro x4
          go_wp2
          go_ret
          exact ⟨rfl, by (repeat' (first | (with_reducible exact Below.refl _ _) | (with_reducible assumption) | (with_reducible refine Below.alloc ?_ ?_ _) | (with_reducible refine Below.drew ?_) | (with_reducible refine below_drewN ?_ _) | (with_reducible refine Below.setCell ?_ ?_ _) | (with_reducible refine below_after ?_ ?_ _) | (with_reducible refine below_set ?_) | (with_reducible refine After.size_le _ ?_) | (with_reducible refine size_alloc_le ?_) | (with_reducible refine size_set_le ?_) | (with_reducible refine size_drewN_le ?_) | go_size))⟩
  · have d1 : (d == 1) = false := beq_eq_false_iff_ne.2 s1
    (go_wp2_with fail); refine calls_after (awake_any _) ?_; intro x4
    go_wp2
    go_ret
    exact ⟨rfl, by (repeat' (first | (with_reducible exact Below.refl _ _) | (with_reducible assumption) | (with_reducible refine Below.alloc ?_ ?_ _) | (with_reducible refine Below.drew ?_) | (with_reducible refine below_drewN ?_ _) | (with_reducible refine Below.setCell ?_ ?_ _) | (with_reducible refine below_after ?_ ?_ _) | (with_reducible refine below_set ?_) | (with_reducible refine After.size_le _ ?_) | (with_reducible refine size_alloc_le ?_) | (with_reducible refine size_set_le ?_) | (with_reducible refine size_drewN_le ?_) | go_size))⟩

set_option maxRecDepth 100000 in
set_option maxHeartbeats 2000000 in
theorem leanRaises_small (p off cap n : Nat) (a b : Int) (A B D A' B' D' rn rd : Int) (F : Nat → Nat → Int) (w : World) (hp : p < w.heap.size) (hn : n ≤ 40) (h1 : 1 ≤ n)
    (ha : -10000000000 ≤ a ∧ a ≤ 10000000000) (hb : -1000000 ≤ b ∧ b ≤ 1000000)
    (HA : Hid (RzAns 49 w (.slice (some ⟨p, off, none⟩) n cap) a b 1 (RzOk n F))) (HB : Hid (RzAns 50 w (.slice (some ⟨p, off, none⟩) n cap) a b 1 (RzOk n F)))
    (HN : Hid (∀ W, Below w.heap.size w W → Calls Try.prog 40 #[.slice (some ⟨p, off, none⟩) n cap] W fun e w' => e = .returned (.tuple #[.agg #[.int .i64 A, .int .i64 B, .int .i64 D], .int .i64 0]) ∧ Below W.heap.size W w'))
    (HE : Hid (∀ W, Below w.heap.size w W → Calls Try.prog 42 #[.slice (some ⟨p, off, none⟩) n cap] W fun e w' => e = .returned (.tuple #[.agg #[.int .i64 rn, .int .i64 rd], .int .i64 0]) ∧ Below W.heap.size W w'))
    (HN2 : Hid (∀ g c W, g < W.heap.size → (∀ i, i < n → W.cell? ⟨g, i * 2, none⟩ = some (.int .i64 (F i 0)) ∧ W.cell? ⟨g, i * 2 + 1, none⟩ = some (.int .i64 (F i 1))) →
      Calls Try.prog 40 #[.slice (some ⟨g, 0, none⟩) n c] W fun e w' => e = .returned (.tuple #[.agg #[.int .i64 A', .int .i64 B', .int .i64 D'], .int .i64 0]) ∧ Below W.heap.size W w'))
    (HE2 : Hid (∀ g c W, g < W.heap.size → (∀ i, i < n → W.cell? ⟨g, i * 2, none⟩ = some (.int .i64 (F i 0)) ∧ W.cell? ⟨g, i * 2 + 1, none⟩ = some (.int .i64 (F i 1))) →
      Calls Try.prog 42 #[.slice (some ⟨g, 0, none⟩) n c] W fun e w' => e = .returned (.tuple #[.agg #[.int .i64 rn, .int .i64 rd], .int .i64 0]) ∧ Below W.heap.size W w'))
    (HV : Hid (∀ W, Calls Try.prog 29 #[.agg #[.int .i64 A, .int .i64 B, .int .i64 D]] W fun e w' => e = .returned (.bool true) ∧ Below W.heap.size W w'))
    (hI : InBd A B D) (hD : D ≤ 400000) (HO : Hid (n = 1 → B' = 0))
    (HM : Hid (2 ≤ n ∨ b = 0 → ∀ W, Calls Try.prog 26 #[.int .i64 (A + a * D), .int .i64 (B + b * D), .int .i64 D] W fun e w' => e = .returned (.tuple #[.agg #[.int .i64 A', .int .i64 B', .int .i64 D'], .int .i64 0]) ∧ Below W.heap.size W w')) :
    Calls Try.prog 11 #[.slice (some ⟨p, off, none⟩) n cap, .agg #[.int .i64 a, .int .i64 b, .int .i64 1]] w fun e w' => e = .returned (.bool true) ∧ Below w.heap.size w w' := by
  have hnn : decide (100 < (n : Int)) = false := by simp; omega
  have hn1 : n ≤ 1000 := by omega
  obtain ⟨a1, a2⟩ := ha
  obtain ⟨b1, b2⟩ := hb
  have d2 : decide (a < -10000000000) = false := by simp; omega
  have d3 : decide (10000000000 < a) = false := by simp; omega
  have d4 : decide (b < -1000000) = false := by simp; omega
  have d5 : decide (1000000 < b) = false := by simp; omega
  have d6 : decide (400000 < D) = false := by simp; omega
  unfold InBd at hI
  obtain ⟨i1, i2, i3, i4, i5, i6⟩ := hI
  obtain ⟨m1, m2⟩ := prod_bd (a := a) (b := D) (A := 10000000000) (B := 400000) (by omega) (by omega) (by omega) (by omega)
  obtain ⟨m3, m4⟩ := prod_bd (a := b) (b := D) (A := 1000000) (B := 400000) (by omega) (by omega) (by omega) (by omega)
  simp only [Int.reduceMul] at m1 m2 m3 m4
  go_enter Try.func11, Try.ntmps11
  have hl0 : LineAt (w.alloc (.cells #[.int .i64 a, .int .i64 b, .int .i64 1] 35)) w.heap.size a b 1 := ⟨by simp, by simp [go_sem], by simp [go_sem], by simp [go_sem]⟩
  have hB0 : Below w.heap.size w (w.alloc (.cells #[.int .i64 a, .int .i64 b, .int .i64 1] 35)) := (Below.refl _ w).alloc (Nat.le_refl _) _
  go_wp2_with fail
  refine (HA.out _ hB0).mono ?_
  rintro e w1 ⟨⟨v1, rfl, hr1⟩, hb1⟩
  have hl1 := hl0.below hb1
  have hB1 := hB0.trans (hb1.mono hB0.size)
  have HR1 := Lib.hid hr1
  clear hr1 hb1 hB0 hl0
  obtain ⟨l0, l1, l2, l3⟩ := hl1
  go_wp2_with fail
  refine (HB.out _ hB1).mono ?_
  rintro e w2 ⟨⟨v2, rfl, hr2⟩, hb2⟩
  have hl2 := (show LineAt w1 w.heap.size a b 1 from ⟨l0, l1, l2, l3⟩).below hb2
  have hB2 := hB1.trans (hb2.mono hB1.size)
  have hr1 := ptRow_below HR1.out hb2
  have HS := Lib.hid (samePt_own hr1 hr2 hn1)
  have HR := Lib.hid hr1
  clear hr1 hr2 HR1 hb2 hB1 l0 l1 l2 l3 HA HB
  have HL := Lib.hid hl2
  clear hl2
  go_wp2_with fail
  refine HS.out.mono ?_
  rintro e w3 ⟨rfl, hb3⟩
  obtain ⟨l0, l1, l2, l3⟩ := HL.out.below hb3
  have hB3 := hB2.trans (hb3.mono hB2.size)
  obtain ⟨g, c, rfl, _, hg, hcq⟩ := ptRow_below HR.out hb3
  have hN2 : Hid (∀ W, Below w3.heap.size w3 W → _) := fun W hW => HN2.out g c W (Nat.lt_of_lt_of_le hg hW.size) fun i hi => ⟨(hW.cell (p := ⟨g, _, none⟩) hg).trans (hcq i hi).1, (hW.cell (p := ⟨g, _, none⟩) hg).trans (hcq i hi).2⟩
  have hE2 : Hid (∀ W, Below w3.heap.size w3 W → _) := fun W hW => HE2.out g c W (Nat.lt_of_lt_of_le hg hW.size) fun i hi => ⟨(hW.cell (p := ⟨g, _, none⟩) hg).trans (hcq i hi).1, (hW.cell (p := ⟨g, _, none⟩) hg).trans (hcq i hi).2⟩
  have hN1 : Hid (∀ W, Below w3.heap.size w3 W → _) := fun W hW => HN.out W (hB3.trans (hW.mono hB3.size))
  have hE1 : Hid (∀ W, Below w3.heap.size w3 W → _) := fun W hW => HE.out W (hB3.trans (hW.mono hB3.size))
  have HB3 := Lib.hid hB3
  have hz := hB3.size
  clear HS HL hb3 hB2 HR hg hcq HN HE HN2 HE2 hB3
  generalize hLq : w.heap.size = L at *
  (go_wp2_with fail); refine calls_after (hN1.out _ (by (repeat' (first | (with_reducible exact Below.refl _ _) | (with_reducible assumption) | (with_reducible refine Below.alloc ?_ ?_ _) | (with_reducible refine Below.drew ?_) | (with_reducible refine below_drewN ?_ _) | (with_reducible refine Below.setCell ?_ ?_ _) | (with_reducible refine below_after ?_ ?_ _) | (with_reducible refine below_set ?_) | (with_reducible refine After.size_le _ ?_) | (with_reducible refine size_alloc_le ?_) | (with_reducible refine size_set_le ?_) | (with_reducible refine size_drewN_le ?_) | go_size)))) ?_; intro x1; have hz_x1 := x1.out.size; (try simp only [World.size_alloc] at hz_x1); (try simp only [World.size_setCell] at hz_x1); have k0_x1 : L < x1.w.heap.size := (by omega); have j0_x1 : L < x1.w.heap.size + 1 := (by omega)
  (go_wp2_with fail); refine calls_after (hN2.out _ (by (repeat' (first | (with_reducible exact Below.refl _ _) | (with_reducible assumption) | (with_reducible refine Below.alloc ?_ ?_ _) | (with_reducible refine Below.drew ?_) | (with_reducible refine below_drewN ?_ _) | (with_reducible refine Below.setCell ?_ ?_ _) | (with_reducible refine below_after ?_ ?_ _) | (with_reducible refine below_set ?_) | (with_reducible refine After.size_le _ ?_) | (with_reducible refine size_alloc_le ?_) | (with_reducible refine size_set_le ?_) | (with_reducible refine size_drewN_le ?_) | go_size)))) ?_; intro x2; have hz_x2 := x2.out.size; (try simp only [World.size_alloc] at hz_x2); (try simp only [World.size_setCell] at hz_x2); have k0_x2 : L < x2.w.heap.size := (by omega); have j0_x2 : L < x2.w.heap.size + 1 := (by omega); have k1_x2 : x1.w.heap.size < x2.w.heap.size := (by omega); have j1_x2 : x1.w.heap.size < x2.w.heap.size + 1 := (by omega)
  (go_wp2_with fail); refine calls_after (hE1.out _ (by (repeat' (first | (with_reducible exact Below.refl _ _) | (with_reducible assumption) | (with_reducible refine Below.alloc ?_ ?_ _) | (with_reducible refine Below.drew ?_) | (with_reducible refine below_drewN ?_ _) | (with_reducible refine Below.setCell ?_ ?_ _) | (with_reducible refine below_after ?_ ?_ _) | (with_reducible refine below_set ?_) | (with_reducible refine After.size_le _ ?_) | (with_reducible refine size_alloc_le ?_) | (with_reducible refine size_set_le ?_) | (with_reducible refine size_drewN_le ?_) | go_size)))) ?_; intro x3; have hz_x3 := x3.out.size; (try simp only [World.size_alloc] at hz_x3); (try simp only [World.size_setCell] at hz_x3); have k0_x3 : L < x3.w.heap.size := (by omega); have j0_x3 : L < x3.w.heap.size + 1 := (by omega); have k1_x3 : x1.w.heap.size < x3.w.heap.size := (by omega); have j1_x3 : x1.w.heap.size < x3.w.heap.size + 1 := (by omega); have k2_x3 : x2.w.heap.size < x3.w.heap.size := (by omega); have j2_x3 : x2.w.heap.size < x3.w.heap.size + 1 := (by omega)
  (go_wp2_with fail); refine calls_after (hE2.out _ (by (repeat' (first | (with_reducible exact Below.refl _ _) | (with_reducible assumption) | (with_reducible refine Below.alloc ?_ ?_ _) | (with_reducible refine Below.drew ?_) | (with_reducible refine below_drewN ?_ _) | (with_reducible refine Below.setCell ?_ ?_ _) | (with_reducible refine below_after ?_ ?_ _) | (with_reducible refine below_set ?_) | (with_reducible refine After.size_le _ ?_) | (with_reducible refine size_alloc_le ?_) | (with_reducible refine size_set_le ?_) | (with_reducible refine size_drewN_le ?_) | go_size)))) ?_; intro x4; have hz_x4 := x4.out.size; (try simp only [World.size_alloc] at hz_x4); (try simp only [World.size_setCell] at hz_x4); have k0_x4 : L < x4.w.heap.size := (by omega); have j0_x4 : L < x4.w.heap.size + 1 := (by omega); have k1_x4 : x1.w.heap.size < x4.w.heap.size := (by omega); have j1_x4 : x1.w.heap.size < x4.w.heap.size + 1 := (by omega); have k2_x4 : x2.w.heap.size < x4.w.heap.size := (by omega); have j2_x4 : x2.w.heap.size < x4.w.heap.size + 1 := (by omega); have k3_x4 : x3.w.heap.size < x4.w.heap.size := (by omega); have j3_x4 : x3.w.heap.size < x4.w.heap.size + 1 := (by omega)
  clear hN1 hN2 hE1 hE2
  (go_wp2_with fail); refine calls_after (HV.out _) ?_; intro x5; have hz_x5 := x5.out.size; (try simp only [World.size_alloc] at hz_x5); (try simp only [World.size_setCell] at hz_x5); have k0_x5 : L < x5.w.heap.size := (by omega); have j0_x5 : L < x5.w.heap.size + 1 := (by omega); have k1_x5 : x1.w.heap.size < x5.w.heap.size := (by omega); have j1_x5 : x1.w.heap.size < x5.w.heap.size + 1 := (by omega); have k2_x5 : x2.w.heap.size < x5.w.heap.size := (by omega); have j2_x5 : x2.w.heap.size < x5.w.heap.size + 1 := (by omega); have k3_x5 : x3.w.heap.size < x5.w.heap.size := (by omega); have j3_x5 : x3.w.heap.size < x5.w.heap.size + 1 := (by omega); have k4_x5 : x4.w.heap.size < x5.w.heap.size := (by omega); have j4_x5 : x4.w.heap.size < x5.w.heap.size + 1 := (by omega)
  by_cases hs : n = 1 ∧ b ≠ 0
  · obtain ⟨rfl, hb0⟩ := hs
    have hbf : (b == 0) = false := beq_eq_false_iff_ne.2 hb0
    obtain rfl := HO.out rfl
    (go_wp2_with fail); refine calls_after (awake_any _) ?_; intro x6
    have hB3 := HB3.out
    go_wp2
    go_ret
    exact ⟨rfl, by subst hLq; (repeat' (first | (with_reducible exact Below.refl _ _) | (with_reducible assumption) | (with_reducible refine Below.alloc ?_ ?_ _) | (with_reducible refine Below.drew ?_) | (with_reducible refine below_drewN ?_ _) | (with_reducible refine Below.setCell ?_ ?_ _) | (with_reducible refine below_after ?_ ?_ _) | (with_reducible refine below_set ?_) | (with_reducible refine After.size_le _ ?_) | (with_reducible refine size_alloc_le ?_) | (with_reducible refine size_set_le ?_) | (with_reducible refine size_drewN_le ?_) | go_size))⟩
  · have hM := Lib.hid (HM.out (by omega))
    by_cases hn' : n = 1
    · have hbt : (b == 0) = true := beq_iff_eq.2 (by omega)
      subst hn'
      (go_wp2_with fail); refine calls_after (hM.out _) ?_; intro x6; have hz_x6 := x6.out.size; (try simp only [World.size_alloc] at hz_x6); (try simp only [World.size_setCell] at hz_x6); have k0_x6 : x2.w.heap.size < x6.w.heap.size := (by omega); have j0_x6 : x2.w.heap.size < x6.w.heap.size + 1 := (by omega)
      (go_wp2_with fail); refine calls_after (awake_any _) ?_; intro x7
      have hB3 := HB3.out
      go_wp2
      go_ret
      exact ⟨rfl, by subst hLq; (repeat' (first | (with_reducible exact Below.refl _ _) | (with_reducible assumption) | (with_reducible refine Below.alloc ?_ ?_ _) | (with_reducible refine Below.drew ?_) | (with_reducible refine below_drewN ?_ _) | (with_reducible refine Below.setCell ?_ ?_ _) | (with_reducible refine below_after ?_ ?_ _) | (with_reducible refine below_set ?_) | (with_reducible refine After.size_le _ ?_) | (with_reducible refine size_alloc_le ?_) | (with_reducible refine size_set_le ?_) | (with_reducible refine size_drewN_le ?_) | go_size))⟩
    · have hnf : ((n : Int) == 1) = false := beq_eq_false_iff_ne.2 (by omega)
      (go_wp2_with fail); refine calls_after (hM.out _) ?_; intro x6; have hz_x6 := x6.out.size; (try simp only [World.size_alloc] at hz_x6); (try simp only [World.size_setCell] at hz_x6); have k0_x6 : x2.w.heap.size < x6.w.heap.size := (by omega); have j0_x6 : x2.w.heap.size < x6.w.heap.size + 1 := (by omega)
      (go_wp2_with fail); refine calls_after (awake_any _) ?_; intro x7
      have hB3 := HB3.out
      go_wp2
      go_ret
      exact ⟨rfl, by subst hLq; (repeat' (first | (with_reducible exact Below.refl _ _) | (with_reducible assumption) | (with_reducible refine Below.alloc ?_ ?_ _) | (with_reducible refine Below.drew ?_) | (with_reducible refine below_drewN ?_ _) | (with_reducible refine Below.setCell ?_ ?_ _) | (with_reducible refine below_after ?_ ?_ _) | (with_reducible refine below_set ?_) | (with_reducible refine After.size_le _ ?_) | (with_reducible refine size_alloc_le ?_) | (with_reducible refine size_set_le ?_) | (with_reducible refine size_drewN_le ?_) | go_size))⟩

theorem leanRaises_any (va : Value) (a b d : Int) (ps : List (Int × Int)) (w : World) (h : Pts w w.heap.size va ps) :
    Calls Try.prog 11 #[va, .agg #[.int .i64 a, .int .i64 b, .int .i64 d]] w fun e w' => e = .returned (.bool true) ∧ Below w.heap.size w w' := by
  by_cases hl : ps.length ≤ 100
  · have sa := say_pts h hl
    have ra := rsay_pts h hl
    have on : ∀ {W : World} {v : Value} {c}, Below w.heap.size w W → PtsSay w v c → PtsSay W v c := fun hW hs W' hW' => hs W' (hW.trans (hW'.mono hW.size))
    have ron : ∀ {W : World} {v : Value} {c}, Below w.heap.size w W → RptsSay w v c → RptsSay W v c := fun hW hs W' hW' => hs W' (hW.trans (hW'.mono hW.size))
    by_cases hG : GoodPts ps
    · by_cases hL : GoodLine a b d
      · obtain ⟨p, off, cap, rfl, hp, hc⟩ := pts_good h hG
        have h40 := hG.2.1
        by_cases hU : ∀ k, k < ps.length → UpOk a b d ps k
        · have HA : Hid (RzAns 49 w (.slice (some ⟨p, off, none⟩) ps.length cap) a b d (RzOk ps.length (upF a b d ps))) := Lib.hid fun W hW =>
            (raised_go p off cap a b d ps W (Nat.lt_of_lt_of_le hp hW.size) (cells_on hp hc hW) hG hL).mono fun e w' ⟨h1, h2⟩ => ⟨by
              rcases h1 with ⟨_, h1⟩ | ⟨⟨k, hk, hn⟩, _⟩
              · exact h1
              · exact absurd (hU k hk) hn, h2⟩
          have HB : Hid (RzAns 50 w (.slice (some ⟨p, off, none⟩) ps.length cap) a b d (RzOk ps.length (upF a b d ps))) := Lib.hid fun W hW =>
            (rraised_go p off cap a b d ps W (Nat.lt_of_lt_of_le hp hW.size) (cells_on hp hc hW) hG hL).mono fun e w' ⟨h1, h2⟩ => ⟨by
              rcases h1 with ⟨_, h1⟩ | ⟨⟨k, hk, hn⟩, _⟩
              · exact h1
              · exact absurd (hU k hk) hn, h2⟩
          by_cases hS : Small a b d
          · obtain ⟨rfl, s1, s2, s3, s4⟩ := hS
            have hQ := up_good hG hU
            have R := raise_main hG hQ
            have hlen : (upL a b 1 ps).length = ps.length := upL_len
            have hcq : ∀ {g : Nat} {W : World}, (∀ i, i < ps.length → W.cell? ⟨g, i * 2, none⟩ = some (.int .i64 (upF a b 1 ps i 0)) ∧ W.cell? ⟨g, i * 2 + 1, none⟩ = some (.int .i64 (upF a b 1 ps i 1))) →
                ∀ i, i < (upL a b 1 ps).length → W.cell? ⟨g, 0 + i * 2, none⟩ = some (.int .i64 ((upL a b 1 ps).getD i (0, 0)).1) ∧ W.cell? ⟨g, 0 + i * 2 + 1, none⟩ = some (.int .i64 ((upL a b 1 ps).getD i (0, 0)).2) := fun hh i hi => by
              rw [hlen] at hi
              rw [upL_at hi, Nat.zero_add]
              exact hh i hi
            have hLn := neL_good hG
            unfold neL at hLn
            dsimp only at hLn
            refine leanRaises_small p off cap ps.length a b (neA ps) (neB ps) (neD ps) (neA (upL a b 1 ps)) (neB (upL a b 1 ps)) (neD (upL a b 1 ps)) _ _ (upF a b 1 ps) w hp h40 hG.1 ⟨s1, s2⟩ ⟨s3, s4⟩ HA HB
              (Lib.hid fun W hW => ?_) (Lib.hid fun W hW => bend_ok p off cap ps W (Nat.lt_of_lt_of_le hp hW.size) (cells_on hp hc hW) hG) (Lib.hid fun g c W hg hh => ?_) (Lib.hid fun g c W hg hh => ?_) (Lib.hid fun W => rvalidLine_t _ _ _ W hLn) hLn.1 R.le (Lib.hid R.one) (Lib.hid fun hh W => ?_)
            · have := nearest_any p off cap ps W (Nat.lt_of_lt_of_le hp hW.size) (by omega) (cells_on hp hc hW)
              rwa [(ne_mk hG).2.2.2] at this
            · have := nearest_any g 0 c (upL a b 1 ps) W hg (by rw [hlen]; omega) (hcq hh)
              rwa [(ne_mk hQ).2.2.2, hlen] at this
            · have := bend_ok g 0 c (upL a b 1 ps) W hg (hcq hh) hQ
              rwa [R.bn, R.bd, hlen] at this
            · have := make_any (neA ps + a * neD ps) (neB ps + b * neD ps) (neD ps) W
              obtain ⟨e1, e2, e3, e4⟩ := R.made hh
              rwa [e1, e2, e3, e4] at this
          · exact leanRaises_big _ _ _ a b d (upF a b d ps) w hl hS HA HB
        · have hU2 : ∃ k, k < ps.length ∧ ¬ UpOk a b d ps k := by
            simp only [Classical.not_forall] at hU
            obtain ⟨k, hk, hn⟩ := hU
            exact ⟨k, hk, hn⟩
          exact leanRaises_err _ _ _ a b d 4 w hl (by omega)
            (Lib.hid fun W hW => (raised_go p off cap a b d ps W (Nat.lt_of_lt_of_le hp hW.size) (cells_on hp hc hW) hG hL).mono fun e w' ⟨h1, h2⟩ => ⟨by
              rcases h1 with ⟨h1, _⟩ | ⟨_, h1⟩
              · exact absurd h1 hU
              · exact h1, h2⟩)
            (Lib.hid fun W hW => (rraised_go p off cap a b d ps W (Nat.lt_of_lt_of_le hp hW.size) (cells_on hp hc hW) hG hL).mono fun e w' ⟨h1, h2⟩ => ⟨by
              rcases h1 with ⟨h1, _⟩ | ⟨_, h1⟩
              · exact absurd h1 hU
              · exact h1, h2⟩)
      · rw [decide_eq_true hG] at sa ra
        obtain ⟨aa, ca, rfl⟩ := pts_slice h
        exact leanRaises_err _ _ _ a b d 1 w hl (by omega) (Lib.hid fun W hW => raised_bad2 _ a b d W (on hW sa) hL) (Lib.hid fun W hW => rraised_bad2 _ a b d W (ron hW ra) hL)
    · rw [decide_eq_false hG] at sa ra
      obtain ⟨aa, ca, rfl⟩ := pts_slice h
      exact leanRaises_err _ _ _ a b d 1 w hl (by omega) (Lib.hid fun W hW => raised_bad1 _ a b d W (on hW sa)) (Lib.hid fun W hW => rraised_bad1 _ a b d W (ron hW ra))
  · obtain ⟨aa, ca, rfl⟩ := pts_slice h
    exact leanRaises_long _ _ _ a b d w (by omega)
end Go.Proofs.Ytdhobjflfhijjaa
