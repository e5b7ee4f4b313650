/- The first day on which a mark is far enough, in both programs. -/
import Derived.Test.YtdhobjflfhijjaaBeyond
import Derived.Test.YtdhobjflfhijjaaPtsv
namespace Go.Proofs.Ytdhobjflfhijjaa
open Go.RowKit
attribute [local go_sem] After.cell After.frozen After.lt After.le After.ne After.ne' After.set_eq After.size_set After.lt_add

/-- How far a mark is from the plumb line k days behind 'to', in millimetres times days. -/
def goneV (a b t k : Int) : Int := b * t + (b - a) * k
/-- .. and whether that is the limit or more. -/
def goneB (a1 a2 b1 b2 t limit : Int) (k : Nat) : Bool := decide (limit * t * (limit * t) ≤ goneV a1 b1 t k * goneV a1 b1 t k + goneV a2 b2 t k * goneV a2 b2 t k)
def InDays (from_ to limit : Int) : Prop := 0 ≤ from_ ∧ from_ < to ∧ to ≤ 100000 ∧ 1 ≤ limit ∧ limit ≤ 20000
instance (from_ to limit : Int) : Decidable (InDays from_ to limit) := by unfold InDays; infer_instance
/-- The first number of days, if there is one. -/
def fstK (B : Nat → Bool) (n : Nat) : Option Nat := (List.range n).find? B
theorem fstK_some {B : Nat → Bool} {n k : Nat} (hk : k < n) (h0 : ∀ j, j < k → B j = false) (h1 : B k = true) : fstK B n = some k := by
  unfold fstK
  rw [List.find?_range_eq_some]
  exact ⟨h1, by simpa using hk, fun j hj => by simp [h0 j hj]⟩
theorem fstK_none {B : Nat → Bool} {n : Nat} (h0 : ∀ j, j < n → B j = false) : fstK B n = none := by
  unfold fstK
  rw [List.find?_range_eq_none]
  intro j hj
  simp [h0 j hj]
def dayV (to : Int) (o : Option Nat) : Int := match o with | some k => to + k | none => 0
def dayE (o : Option Nat) : Int := match o with | some _ => 0 | none => 8
theorem goneV_bd {a b t k : Int} (ha : -10000 ≤ a ∧ a ≤ 10000) (hb : -10000 ≤ b ∧ b ≤ 10000) (ht : 1 ≤ t ∧ t ≤ 100000) (hk : 0 ≤ k ∧ k ≤ 40000) :
    (-1000000000 ≤ b * t ∧ b * t ≤ 1000000000) ∧ (-800000000 ≤ (b - a) * k ∧ (b - a) * k ≤ 800000000) ∧ -1800000000 ≤ goneV a b t k ∧ goneV a b t k ≤ 1800000000 := by
  have k1 := prod_bd (a := b) (b := t) (A := 10000) (B := 100000) (by omega) (by omega) (by omega) (by omega)
  have k2 := prod_bd (a := b - a) (b := k) (A := 20000) (B := 40000) (by omega) (by omega) (by omega) (by omega)
  unfold goneV
  omega

theorem validMark_t (h x y : Int) (w : World) (hp : InMk h x y) :
    Calls Try.prog 99 #[.agg #[.int .i64 h, .int .i64 x, .int .i64 y]] w fun e w' => e = .returned (.bool true) ∧ Below w.heap.size w w' :=
  (validMark_any h x y w).mono fun _ _ ⟨h1, h2⟩ => ⟨by rw [h1]; simp [hp], h2⟩
theorem validMark_f (h x y : Int) (w : World) (hp : ¬ InMk h x y) :
    Calls Try.prog 99 #[.agg #[.int .i64 h, .int .i64 x, .int .i64 y]] w fun e w' => e = .returned (.bool false) ∧ Below w.heap.size w w' :=
  (validMark_any h x y w).mono fun _ _ ⟨h1, h2⟩ => ⟨by rw [h1]; simp [hp], h2⟩
theorem rvalidMark_t (h x y : Int) (w : World) (hp : InMk h x y) :
    Calls Try.prog 60 #[.agg #[.int .i64 h, .int .i64 x, .int .i64 y]] w fun e w' => e = .returned (.bool true) ∧ Below w.heap.size w w' :=
  (rvalidMark_any h x y w).mono fun _ _ ⟨h1, h2⟩ => ⟨by rw [h1]; simp [hp], h2⟩
theorem rvalidMark_f (h x y : Int) (w : World) (hp : ¬ InMk h x y) :
    Calls Try.prog 60 #[.agg #[.int .i64 h, .int .i64 x, .int .i64 y]] w fun e w' => e = .returned (.bool false) ∧ Below w.heap.size w w' :=
  (rvalidMark_any h x y w).mono fun _ _ ⟨h1, h2⟩ => ⟨by rw [h1]; simp [hp], h2⟩

/-! ### The program -/
set_option maxRecDepth 100000 in
set_option maxHeartbeats 1000000 in
theorem reaches_mark (ah ae an bh be bn f t l : Int) (w : World) (h : ¬ (InMk ah ae an ∧ InMk bh be bn)) :
    Calls Try.prog 55 #[.agg #[.int .i64 ah, .int .i64 ae, .int .i64 an], .agg #[.int .i64 bh, .int .i64 be, .int .i64 bn], .int .i64 f, .int .i64 t, .int .i64 l] w fun e w' => e = .returned (.tuple #[.int .i64 0, .int .i64 1]) ∧ Below w.heap.size w w' := by
  by_cases ha : InMk ah ae an
  · have HA := Lib.hid (fun w => validMark_t ah ae an w ha)
    have HB := Lib.hid (fun w => validMark_f bh be bn w (fun hb => h ⟨ha, hb⟩))
    clear ha h
    go_enter Try.func55, Try.ntmps55
    (go_wp2_with fail); refine calls_after (HA.out _) ?_; intro x1; have hz_x1 := x1.out.size; (try simp only [World.size_alloc] at hz_x1); (try simp only [World.size_setCell] at hz_x1); have k0_x1 : w.heap.size < x1.w.heap.size := (by omega); have j0_x1 : w.heap.size < x1.w.heap.size + 1 := (by omega); have k1_x1 : w.heap.size + 1 < x1.w.heap.size := (by omega); have j1_x1 : w.heap.size + 1 < x1.w.heap.size + 1 := (by omega)
    (go_wp2_with fail); refine calls_after2 (HB.out _) ?_; intro x2
    go_wp2
    go_returns
    exact ⟨rfl, by (repeat' (first | (with_reducible exact Below.refl _ _) | (with_reducible assumption) | (with_reducible refine Below.alloc ?_ ?_ _) | (with_reducible refine Below.drew ?_) | (with_reducible refine below_drewN ?_ _) | (with_reducible refine Below.setCell ?_ ?_ _) | (with_reducible refine below_after ?_ ?_ _) | (with_reducible refine below_set ?_) | (with_reducible refine After.size_le _ ?_) | (with_reducible refine size_alloc_le ?_) | (with_reducible refine size_set_le ?_) | (with_reducible refine size_drewN_le ?_) | go_size))⟩
  · have HA := Lib.hid (fun w => validMark_f ah ae an w ha)
    clear ha h
    go_enter Try.func55, Try.ntmps55
    (go_wp2_with fail); refine calls_after (HA.out _) ?_; intro x1
    go_wp2
    go_returns
    exact ⟨rfl, by (repeat' (first | (with_reducible exact Below.refl _ _) | (with_reducible assumption) | (with_reducible refine Below.alloc ?_ ?_ _) | (with_reducible refine Below.drew ?_) | (with_reducible refine below_drewN ?_ _) | (with_reducible refine Below.setCell ?_ ?_ _) | (with_reducible refine below_after ?_ ?_ _) | (with_reducible refine below_set ?_) | (with_reducible refine After.size_le _ ?_) | (with_reducible refine size_alloc_le ?_) | (with_reducible refine size_set_le ?_) | (with_reducible refine size_drewN_le ?_) | go_size))⟩

set_option maxRecDepth 100000 in
set_option maxHeartbeats 1000000 in
theorem reaches_days (ah ae an bh be bn f t l : Int) (w : World) (ha : InMk ah ae an) (hb : InMk bh be bn) (h : ¬ InDays f t l) (hf : In64 f) (ht : In64 t) :
    Calls Try.prog 55 #[.agg #[.int .i64 ah, .int .i64 ae, .int .i64 an], .agg #[.int .i64 bh, .int .i64 be, .int .i64 bn], .int .i64 f, .int .i64 t, .int .i64 l] w fun e w' => e = .returned (.tuple #[.int .i64 0, .int .i64 7]) ∧ Below w.heap.size w w' := by
  have HA := Lib.hid (fun w => validMark_t ah ae an w ha)
  have HB := Lib.hid (fun w => validMark_t bh be bn w hb)
  clear ha hb
  unfold In64 at hf ht
  unfold InDays at h
  rcases (show f < 0 ∨ (0 ≤ f ∧ 100000 < f) ∨ (0 ≤ f ∧ f ≤ 100000 ∧ t < f + 1) ∨ (0 ≤ f ∧ f ≤ 100000 ∧ f + 1 ≤ t ∧ 100000 < t) ∨ (0 ≤ f ∧ f ≤ 100000 ∧ f + 1 ≤ t ∧ t ≤ 100000 ∧ l < 1) ∨ (0 ≤ f ∧ f ≤ 100000 ∧ f + 1 ≤ t ∧ t ≤ 100000 ∧ 1 ≤ l ∧ ¬ l ≤ 20000) by omega) with h1 | h1 | h1 | h1 | h1 | h1
  all_goals
    clear h
    try obtain ⟨h1, h2⟩ := h1
    try obtain ⟨h2, h3⟩ := h2
    try obtain ⟨h3, h4⟩ := h3
    try obtain ⟨h4, h5⟩ := h4
    try obtain ⟨h5, h6⟩ := h5
    try (have d6 : decide (l ≤ 20000) = false := by simp; omega)
    go_enter Try.func55, Try.ntmps55
    (go_wp2_with fail); refine calls_after (HA.out _) ?_; intro x1; have hz_x1 := x1.out.size; (try simp only [World.size_alloc] at hz_x1); (try simp only [World.size_setCell] at hz_x1); have k0_x1 : w.heap.size < x1.w.heap.size := (by omega); have j0_x1 : w.heap.size < x1.w.heap.size + 1 := (by omega); have k1_x1 : w.heap.size + 1 < x1.w.heap.size := (by omega); have j1_x1 : w.heap.size + 1 < x1.w.heap.size + 1 := (by omega)
    (go_wp2_with fail); refine calls_after2 (HB.out _) ?_; intro x2
    go_wp2
    go_returns
    exact ⟨rfl, by (repeat' (first | (with_reducible exact Below.refl _ _) | (with_reducible assumption) | (with_reducible refine Below.alloc ?_ ?_ _) | (with_reducible refine Below.drew ?_) | (with_reducible refine below_drewN ?_ _) | (with_reducible refine Below.setCell ?_ ?_ _) | (with_reducible refine below_after ?_ ?_ _) | (with_reducible refine below_set ?_) | (with_reducible refine After.size_le _ ?_) | (with_reducible refine size_alloc_le ?_) | (with_reducible refine size_set_le ?_) | (with_reducible refine size_drewN_le ?_) | go_size))⟩

theorem sq_bd {x : Int} {A : Int} (h : -A ≤ x ∧ x ≤ A) : 0 ≤ x * x ∧ x * x ≤ A * A := by
  have h1 : (x.natAbs : Int) ≤ A := by omega
  have h2 : x * x = (x.natAbs : Int) * (x.natAbs : Int) := by
    rw [← Int.natAbs_mul_self (a := x)]; simp
  rw [h2]
  exact ⟨Int.mul_nonneg (by omega) (by omega), Int.mul_le_mul h1 h1 (by omega) (by omega)⟩
theorem goneB_iff (a1 a2 b1 b2 t l : Int) (k : Nat) : goneB a1 a2 b1 b2 t l k = true ↔ l * t * l * t ≤ (b1 * t + (b1 - a1) * k) * (b1 * t + (b1 - a1) * k) + (b2 * t + (b2 - a2) * k) * (b2 * t + (b2 - a2) * k) := by
  unfold goneB goneV
  rw [decide_eq_true_iff, Int.mul_assoc (l * t) l t]

set_option maxRecDepth 100000 in
set_option maxHeartbeats 1000000 in
theorem reaches_ok (ah ae an bh be bn f t l : Int) (w : World) (ha : InMk ah ae an) (hb : InMk bh be bn) (h : InDays f t l) :
    Calls Try.prog 55 #[.agg #[.int .i64 ah, .int .i64 ae, .int .i64 an], .agg #[.int .i64 bh, .int .i64 be, .int .i64 bn], .int .i64 f, .int .i64 t, .int .i64 l] w fun e w' => e = .returned (.tuple #[.int .i64 (dayV t (fstK (goneB ae an be bn (t - f) l) 40001)), .int .i64 (dayE (fstK (goneB ae an be bn (t - f) l) 40001))]) ∧ Below w.heap.size w w' := by
  have HA := Lib.hid (fun w => validMark_t ah ae an w ha)
  have HB := Lib.hid (fun w => validMark_t bh be bn w hb)
  unfold InMk at ha hb
  unfold InDays at h
  obtain ⟨h1, h2, h3, h4, h5⟩ := h
  have hf1 : f + 1 ≤ t := by omega
  have hf2 : f ≤ 100000 := by omega
  have g1 := goneV_bd (a := ae) (b := be) (t := t - f) (k := 0) (by omega) (by omega) (by omega) (by omega)
  have g2 := goneV_bd (a := an) (b := bn) (t := t - f) (k := 0) (by omega) (by omega) (by omega) (by omega)
  obtain ⟨⟨g1, g1'⟩, _⟩ := g1
  obtain ⟨⟨g2, g2'⟩, _⟩ := g2
  have l1 := prod_bd (a := l) (b := t - f) (A := 20000) (B := 100000) (by omega) (by omega) (by omega) (by omega)
  have l2 := prod_bd (a := l * (t - f)) (b := l) (A := 2000000000) (B := 20000) (by omega) (by omega) (by omega) (by omega)
  have l3 := prod_bd (a := l * (t - f) * l) (b := t - f) (A := 40000000000000) (B := 100000) (by omega) (by omega) (by omega) (by omega)
  simp only [Int.reduceMul, Int.reduceNeg] at l1 l2 l3
  obtain ⟨l1, l1'⟩ := l1
  obtain ⟨l2, l2'⟩ := l2
  obtain ⟨l3, l3'⟩ := l3
  generalize hX : fstK (goneB ae an be bn (t - f) l) 40001 = o
  have HX := Lib.hid hX
  clear hX
  go_enter Try.func55, Try.ntmps55
  (go_wp2_with fail); refine calls_after (HA.out _) ?_; intro x1; have hz_x1 := x1.out.size; (try simp only [World.size_alloc] at hz_x1); (try simp only [World.size_setCell] at hz_x1); have k0_x1 : w.heap.size < x1.w.heap.size := (by omega); have j0_x1 : w.heap.size < x1.w.heap.size + 1 := (by omega); have k1_x1 : w.heap.size + 1 < x1.w.heap.size := (by omega); have j1_x1 : w.heap.size + 1 < x1.w.heap.size + 1 := (by omega)
  (go_wp2_with fail); refine calls_after2 (HB.out _) ?_; intro x2; have hz_x2 := x2.out.size; (try simp only [World.size_alloc] at hz_x2); (try simp only [World.size_setCell] at hz_x2); have k0_x2 : w.heap.size < x2.w.heap.size := (by omega); have j0_x2 : w.heap.size < x2.w.heap.size + 1 := (by omega); have k1_x2 : w.heap.size + 1 < x2.w.heap.size := (by omega); have j1_x2 : w.heap.size + 1 < x2.w.heap.size + 1 := (by omega)
  clear HA HB
  go_wp2
  go_loop [42] (fun i => ∃ k : Nat, k ≤ 40001 ∧ i = .int .i64 k ∧ ∀ j, j < k → goneB ae an be bn (t - f) l j = false) (fun i => 40001 - (intOf i).toNat)
  case atStart => exact ⟨0, by omega, rfl, fun j hj => absurd hj (by omega)⟩
  case round =>
    obtain ⟨k, hk, rfl, ho⟩ := hrel
    have HO := Lib.hid ho
    clear ho
    by_cases hlt : k < 40001
    · have b1 := goneV_bd (a := ae) (b := be) (t := t - f) (k := k) (by omega) (by omega) (by omega) (by omega)
      have b2 := goneV_bd (a := an) (b := bn) (t := t - f) (k := k) (by omega) (by omega) (by omega) (by omega)
      unfold goneV at b1 b2
      obtain ⟨_, ⟨b11, b12⟩, b13, b14⟩ := b1
      obtain ⟨_, ⟨b21, b22⟩, b23, b24⟩ := b2
      have s1 := sq_bd ⟨b13, b14⟩
      have s2 := sq_bd ⟨b23, b24⟩
      simp only [Int.reduceMul] at s1 s2
      obtain ⟨s1, s1'⟩ := s1
      obtain ⟨s2, s2'⟩ := s2
      have hI : (k : Int) < 40001 := by omega
      have hJ : (0 : Int) ≤ (k : Int) := by omega
      have HL := Lib.hid hlt
      clear hlt hk
      have HG := Lib.hid (goneB_iff ae an be bn (t - f) l k)
      by_cases hB : l * (t - f) * l * (t - f) ≤ (be * (t - f) + (be - ae) * k) * (be * (t - f) + (be - ae) * k) + (bn * (t - f) + (bn - an) * k) * (bn * (t - f) + (bn - an) * k)
      · obtain rfl : o = some k := HX.out.symm.trans (fstK_some HL.out HO.out (HG.out.2 hB))
        clear HL HX
        go_wp2
        go_returns
        exact ⟨rfl, by (repeat' (first | (with_reducible exact Below.refl _ _) | (with_reducible assumption) | (with_reducible refine Below.alloc ?_ ?_ _) | (with_reducible refine Below.drew ?_) | (with_reducible refine below_drewN ?_ _) | (with_reducible refine Below.setCell ?_ ?_ _) | (with_reducible refine below_after ?_ ?_ _) | (with_reducible refine below_set ?_) | (with_reducible refine After.size_le _ ?_) | (with_reducible refine size_alloc_le ?_) | (with_reducible refine size_set_le ?_) | (with_reducible refine size_drewN_le ?_) | go_size))⟩
      · have HF := Lib.hid (show goneB ae an be bn (t - f) l k = false from by
          rw [← Bool.not_eq_true]; exact fun h => hB (HG.out.1 h))
        go_wp2
        go_round
        case rel => exact ⟨k + 1, by have := HL.out; omega, by go_num, fun j hj => by
          rcases Nat.lt_or_ge j k with hj' | hj'
          · exact HO.out j hj'
          · obtain rfl : j = k := by omega
            exact HF.out⟩
        case measure => simp [intOf]; omega
    · have hk2 : k = 40001 := by omega
      have hI : ¬ (k : Int) < 40001 := by omega
      have hJ : (0 : Int) ≤ (k : Int) := by omega
      have HK := Lib.hid hk2
      clear hk2 hk hlt
      obtain rfl : o = none := HX.out.symm.trans (fstK_none (by rw [← HK.out]; exact HO.out))
      clear HX HK
      go_wp2
      go_returns
      exact ⟨rfl, by (repeat' (first | (with_reducible exact Below.refl _ _) | (with_reducible assumption) | (with_reducible refine Below.alloc ?_ ?_ _) | (with_reducible refine Below.drew ?_) | (with_reducible refine below_drewN ?_ _) | (with_reducible refine Below.setCell ?_ ?_ _) | (with_reducible refine below_after ?_ ?_ _) | (with_reducible refine below_set ?_) | (with_reducible refine After.size_le _ ?_) | (with_reducible refine size_alloc_le ?_) | (with_reducible refine size_set_le ?_) | (with_reducible refine size_drewN_le ?_) | go_size))⟩
end Go.Proofs.Ytdhobjflfhijjaa
