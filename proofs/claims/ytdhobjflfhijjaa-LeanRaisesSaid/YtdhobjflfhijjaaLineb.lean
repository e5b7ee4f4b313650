/- Contracts of the functions on lines and fractions, part 2. -/
import Derived.Test.YtdhobjflfhijjaaLine
namespace Go.Proofs.Ytdhobjflfhijjaa
open Go.RowKit
attribute [local go_sem 10000] eql_line neq_line eql_ratio neq_ratio eql_point neq_point eql_mark neq_mark
attribute [local go_sem] After.cell After.frozen After.lt After.le After.ne After.ne' After.set_eq After.size_set After.lt_add eq3_self eq2_self

def GoodLine (a b d : Int) : Prop := InBd a b d ∧ gcd3 a b d = 1
instance (a b d : Int) : Decidable (GoodLine a b d) := by unfold GoodLine; infer_instance

theorem tdiv_self_iff (d : Int) (g : Nat) (hd : 1 ≤ d) (hg : 1 ≤ g) : d.tdiv g = d ↔ g = 1 := by
  rw [Int.tdiv_eq_ediv_of_nonneg (by omega)]
  constructor
  · intro h
    by_cases h2 : 2 ≤ g
    · have h3 : d / (g : Int) < d := Int.ediv_lt_self_of_pos_of_ne_one (by omega) (by omega)
      omega
    · omega
  · rintro rfl; simp
theorem good_of_eq3 {a b d : Int} (h : InBd a b d) : eq3 (a.tdiv (gcd3 a b d)) (b.tdiv (gcd3 a b d)) (d.tdiv (gcd3 a b d)) a b d = decide (GoodLine a b d) := by
  have hd : 1 ≤ d := by unfold InBd at h; omega
  have hg := gcd3_pos (a := a) (b := b) hd
  have := tdiv_self_iff d (gcd3 a b d) hd hg
  unfold eq3 GoodLine
  by_cases h1 : gcd3 a b d = 1
  · simp [h1, h]
  · have : ¬ d.tdiv (gcd3 a b d) = d := fun e => h1 (this.1 e)
    simp [h1, this]
theorem inBounds_t (a b d : Int) (w : World) (h : InBd a b d) :
    Calls Try.prog 64 #[.agg #[.int .i64 a, .int .i64 b, .int .i64 d]] w fun e w' => e = .returned (.bool true) ∧ Below w.heap.size w w' :=
  (inBounds_any a b d w).mono fun _ _ ⟨h1, h2⟩ => ⟨by rw [h1]; simp [h], h2⟩
theorem inBounds_f (a b d : Int) (w : World) (h : ¬ InBd a b d) :
    Calls Try.prog 64 #[.agg #[.int .i64 a, .int .i64 b, .int .i64 d]] w fun e w' => e = .returned (.bool false) ∧ Below w.heap.size w w' :=
  (inBounds_any a b d w).mono fun _ _ ⟨h1, h2⟩ => ⟨by rw [h1]; simp [h], h2⟩

set_option maxRecDepth 100000 in
set_option maxHeartbeats 400000 in
theorem validLine_any (a b d : Int) (w : World) :
    Calls Try.prog 28 #[.agg #[.int .i64 a, .int .i64 b, .int .i64 d]] w fun e w' => e = .returned (.bool (decide (GoodLine a b d))) ∧ Below w.heap.size w w' := by
  by_cases hI : InBd a b d
  · have HI := Lib.hid hI
    clear hI
    go_enter Try.func28, Try.ntmps28
    go_wp2
    refine wp_region_after (by kernel_rfl) (by kernel_rfl) ?_; (repeat (first | go_big_quiet_step ((first | (go_at_call 64; exact quiet_after (inBounds_t _ _ _ _ HI.out)) | (go_at_call 65; exact quiet_after (lowest_any _ _ _ _ HI.out)))) | (refine wpQuiet_step (fun K hK => ?_); go_simp; first | (refine hK _ ?_; clear hK K) | (apply Exists.intro; refine ⟨fun x => ?_, hK _ ?_⟩; (first | (go_at_call 64; exact quiet_after (inBounds_t _ _ _ _ HI.out)) | (go_at_call 65; exact quiet_after (lowest_any _ _ _ _ HI.out))); clear hK K)))); refine wpQuiet_nil ?_
    intro x1
    go_wp2
    go_ret
    exact ⟨ret_bool (good_of_eq3 HI.out), by (repeat' (first | (with_reducible exact Below.refl _ _) | (with_reducible assumption) | (with_reducible refine Below.alloc ?_ ?_ _) | (with_reducible refine Below.drew ?_) | (with_reducible refine below_drewN ?_ _) | (with_reducible refine Below.setCell ?_ ?_ _) | (with_reducible refine below_after ?_ ?_ _) | (with_reducible refine below_set ?_) | (with_reducible refine After.size_le _ ?_) | (with_reducible refine size_alloc_le ?_) | (with_reducible refine size_set_le ?_) | (with_reducible refine size_drewN_le ?_) | go_size))⟩
  · have HI := Lib.hid hI
    clear hI
    go_enter Try.func28, Try.ntmps28
    go_wp2
    refine wp_region_after (by kernel_rfl) (by kernel_rfl) ?_; (repeat (first | go_big_quiet_step ((first | (go_at_call 64; exact quiet_after (inBounds_f _ _ _ _ HI.out)))) | (refine wpQuiet_step (fun K hK => ?_); go_simp; first | (refine hK _ ?_; clear hK K) | (apply Exists.intro; refine ⟨fun x => ?_, hK _ ?_⟩; (first | (go_at_call 64; exact quiet_after (inBounds_f _ _ _ _ HI.out))); clear hK K)))); refine wpQuiet_nil ?_
    intro x1
    go_wp2
    go_ret
    exact ⟨ret_bool (by simp [GoodLine, HI.out]), by (repeat' (first | (with_reducible exact Below.refl _ _) | (with_reducible assumption) | (with_reducible refine Below.alloc ?_ ?_ _) | (with_reducible refine Below.drew ?_) | (with_reducible refine below_drewN ?_ _) | (with_reducible refine Below.setCell ?_ ?_ _) | (with_reducible refine below_after ?_ ?_ _) | (with_reducible refine below_set ?_) | (with_reducible refine After.size_le _ ?_) | (with_reducible refine size_alloc_le ?_) | (with_reducible refine size_set_le ?_) | (with_reducible refine size_drewN_le ?_) | go_size))⟩


theorem rinBounds_t (a b d : Int) (w : World) (h : InBd a b d) :
    Calls Try.prog 66 #[.int .i64 a, .int .i64 b, .int .i64 d] w fun e w' => e = .returned (.bool true) ∧ ∃ n, w' = w.drewN n :=
  (rinBounds_any a b d w).mono fun _ _ ⟨h1, h2⟩ => ⟨by rw [h1]; simp [h], h2⟩
theorem rinBounds_f (a b d : Int) (w : World) (h : ¬ InBd a b d) :
    Calls Try.prog 66 #[.int .i64 a, .int .i64 b, .int .i64 d] w fun e w' => e = .returned (.bool false) ∧ ∃ n, w' = w.drewN n :=
  (rinBounds_any a b d w).mono fun _ _ ⟨h1, h2⟩ => ⟨by rw [h1]; simp [h], h2⟩

theorem gcd_bd {a b : Int} {n : Nat} (ha : a.natAbs ≤ n) (hb : b.natAbs ≤ n) : (Int.gcd a b : Int) ≤ 2 * n := by
  have := gcd_add a.natAbs b.natAbs
  unfold Int.gcd; omega

set_option maxRecDepth 100000 in
set_option maxHeartbeats 400000 in
theorem rvalidLine_any (a b d : Int) (w : World) :
    Calls Try.prog 29 #[.agg #[.int .i64 a, .int .i64 b, .int .i64 d]] w fun e w' => e = .returned (.bool (decide (GoodLine a b d))) ∧ Below w.heap.size w w' := by
  by_cases hI : InBd a b d
  · have HI := Lib.hid hI
    unfold InBd at hI
    obtain ⟨i1, i2, i3, i4, i5, i6⟩ := hI
    have hgb := gcd_bd (a := a) (b := b) (n := 100000000000000000) (by omega) (by omega)
    have HG : Hid ((((Int.gcd (Int.gcd a b) d : Nat) : Int) == 1) = decide (GoodLine a b d)) := by
      have := HI.out
      show (((gcd3 a b d : Nat) : Int) == 1) = decide (GoodLine a b d)
      unfold GoodLine
      by_cases h1 : gcd3 a b d = 1
      · simp [h1, this]
      · have : ¬ ((gcd3 a b d : Nat) : Int) = 1 := by omega
        simp [h1, this]
    go_enter Try.func29, Try.ntmps29
    go_wp2
    refine wp_region_after (by kernel_rfl) (by kernel_rfl) ?_; (repeat (first | go_big_quiet_step ((first | (go_at_call 66; exact quiet_after_drew (rinBounds_t _ _ _ _ HI.out)) | (go_at_call 67; exact quiet_after_drew (divisor_any _ _ _ (by omega) (by omega) (by omega) (by omega))))) | (refine wpQuiet_step (fun K hK => ?_); go_simp; first | (refine hK _ ?_; clear hK K) | (apply Exists.intro; refine ⟨fun x => ?_, hK _ ?_⟩; (first | (go_at_call 66; exact quiet_after_drew (rinBounds_t _ _ _ _ HI.out)) | (go_at_call 67; exact quiet_after_drew (divisor_any _ _ _ (by omega) (by omega) (by omega) (by omega)))); clear hK K)))); refine wpQuiet_nil ?_
    intro x1
    go_wp2
    go_ret
    exact ⟨ret_bool HG.out, by (repeat' (first | (with_reducible exact Below.refl _ _) | (with_reducible assumption) | (with_reducible refine Below.alloc ?_ ?_ _) | (with_reducible refine Below.drew ?_) | (with_reducible refine below_drewN ?_ _) | (with_reducible refine Below.setCell ?_ ?_ _) | (with_reducible refine below_after ?_ ?_ _) | (with_reducible refine below_set ?_) | (with_reducible refine After.size_le _ ?_) | (with_reducible refine size_alloc_le ?_) | (with_reducible refine size_set_le ?_) | (with_reducible refine size_drewN_le ?_) | go_size))⟩
  · have HI := Lib.hid hI
    clear hI
    go_enter Try.func29, Try.ntmps29
    go_wp2
    refine wp_region_after (by kernel_rfl) (by kernel_rfl) ?_; (repeat (first | go_big_quiet_step ((first | (go_at_call 66; exact quiet_after_drew (rinBounds_f _ _ _ _ HI.out)))) | (refine wpQuiet_step (fun K hK => ?_); go_simp; first | (refine hK _ ?_; clear hK K) | (apply Exists.intro; refine ⟨fun x => ?_, hK _ ?_⟩; (first | (go_at_call 66; exact quiet_after_drew (rinBounds_f _ _ _ _ HI.out))); clear hK K)))); refine wpQuiet_nil ?_
    intro x1
    go_wp2
    go_ret
    exact ⟨ret_bool (by simp [GoodLine, HI.out]), by (repeat' (first | (with_reducible exact Below.refl _ _) | (with_reducible assumption) | (with_reducible refine Below.alloc ?_ ?_ _) | (with_reducible refine Below.drew ?_) | (with_reducible refine below_drewN ?_ _) | (with_reducible refine Below.setCell ?_ ?_ _) | (with_reducible refine below_after ?_ ?_ _) | (with_reducible refine below_set ?_) | (with_reducible refine After.size_le _ ?_) | (with_reducible refine size_alloc_le ?_) | (with_reducible refine size_set_le ?_) | (with_reducible refine size_drewN_le ?_) | go_size))⟩


/-! ### Make -/
def mkA (a b d : Int) : Int := if InBd a b d then a.tdiv (gcd3 a b d) else 0
def mkB (a b d : Int) : Int := if InBd a b d then b.tdiv (gcd3 a b d) else 0
def mkD (a b d : Int) : Int := if InBd a b d then d.tdiv (gcd3 a b d) else 0
def mkE (a b d : Int) : Int := if InBd a b d then 0 else 7

set_option maxRecDepth 100000 in
set_option maxHeartbeats 400000 in
theorem make_any (a b d : Int) (w : World) :
    Calls Try.prog 26 #[.int .i64 a, .int .i64 b, .int .i64 d] w fun e w' => e = .returned (.tuple #[.agg #[.int .i64 (mkA a b d), .int .i64 (mkB a b d), .int .i64 (mkD a b d)], .int .i64 (mkE a b d)]) ∧ Below w.heap.size w w' := by
  by_cases hI : InBd a b d
  · have HI := Lib.hid hI
    have e : mkA a b d = a.tdiv (gcd3 a b d) ∧ mkB a b d = b.tdiv (gcd3 a b d) ∧ mkD a b d = d.tdiv (gcd3 a b d) ∧ mkE a b d = 0 := by simp [mkA, mkB, mkD, mkE, hI]
    rw [e.1, e.2.1, e.2.2.1, e.2.2.2]
    clear hI e
    go_enter Try.func26, Try.ntmps26
    go_wp2_with (first | (go_at_call 64; (with_reducible (first | refine calls_after2 (inBounds_t _ _ _ _ HI.out) ?_ | refine calls_after (inBounds_t _ _ _ _ HI.out) ?_)); intro x1) | (go_at_call 65; (with_reducible (first | refine calls_after2 (lowest_any _ _ _ _ HI.out) ?_ | refine calls_after (lowest_any _ _ _ _ HI.out) ?_)); intro x2))
    go_returns
    exact ⟨rfl, by (repeat' (first | (with_reducible exact Below.refl _ _) | (with_reducible assumption) | (with_reducible refine Below.alloc ?_ ?_ _) | (with_reducible refine Below.drew ?_) | (with_reducible refine below_drewN ?_ _) | (with_reducible refine Below.setCell ?_ ?_ _) | (with_reducible refine below_after ?_ ?_ _) | (with_reducible refine below_set ?_) | (with_reducible refine After.size_le _ ?_) | (with_reducible refine size_alloc_le ?_) | (with_reducible refine size_set_le ?_) | (with_reducible refine size_drewN_le ?_) | go_size))⟩
  · have HI := Lib.hid hI
    have e : mkA a b d = 0 ∧ mkB a b d = 0 ∧ mkD a b d = 0 ∧ mkE a b d = 7 := by simp [mkA, mkB, mkD, mkE, hI]
    rw [e.1, e.2.1, e.2.2.1, e.2.2.2]
    clear hI e
    go_enter Try.func26, Try.ntmps26
    go_wp2_with (first | (go_at_call 64; (with_reducible (first | refine calls_after2 (inBounds_f _ _ _ _ HI.out) ?_ | refine calls_after (inBounds_f _ _ _ _ HI.out) ?_)); intro x1))
    go_returns
    exact ⟨rfl, by (repeat' (first | (with_reducible exact Below.refl _ _) | (with_reducible assumption) | (with_reducible refine Below.alloc ?_ ?_ _) | (with_reducible refine Below.drew ?_) | (with_reducible refine below_drewN ?_ _) | (with_reducible refine Below.setCell ?_ ?_ _) | (with_reducible refine below_after ?_ ?_ _) | (with_reducible refine below_set ?_) | (with_reducible refine After.size_le _ ?_) | (with_reducible refine size_alloc_le ?_) | (with_reducible refine size_set_le ?_) | (with_reducible refine size_drewN_le ?_) | go_size))⟩

set_option maxRecDepth 100000 in
set_option maxHeartbeats 400000 in
theorem rmake_any (a b d : Int) (w : World) :
    Calls Try.prog 27 #[.int .i64 a, .int .i64 b, .int .i64 d] w fun e w' => e = .returned (.tuple #[.agg #[.int .i64 (mkA a b d), .int .i64 (mkB a b d), .int .i64 (mkD a b d)], .int .i64 (mkE a b d)]) ∧ Below w.heap.size w w' := by
  by_cases hI : InBd a b d
  · have HI := Lib.hid hI
    have e : mkA a b d = a.tdiv (gcd3 a b d) ∧ mkB a b d = b.tdiv (gcd3 a b d) ∧ mkD a b d = d.tdiv (gcd3 a b d) ∧ mkE a b d = 0 := by simp [mkA, mkB, mkD, mkE, hI]
    rw [e.1, e.2.1, e.2.2.1, e.2.2.2]
    clear e
    unfold InBd at hI
    obtain ⟨i1, i2, i3, i4, i5, i6⟩ := hI
    have hgb := gcd_bd (a := a) (b := b) (n := 100000000000000000) (by omega) (by omega)
    have hg := gcd3_pos (a := a) (b := b) i5
    have HG : Hid (Int.gcd (Int.gcd a b) d = gcd3 a b d) := rfl
    have hq1 : d / (gcd3 a b d : Int) ≤ 1000000000000 := Int.le_trans (Int.ediv_le_self _ (by omega)) i6
    have hq0 : 0 ≤ d / (gcd3 a b d : Int) := Int.ediv_nonneg (by omega) (by omega)
    have he : Hid (d.tdiv (gcd3 a b d : Int) = d / (gcd3 a b d : Int)) := Int.tdiv_eq_ediv_of_nonneg (by omega)
    generalize gcd3 a b d = g at *
    have hg' : (1 : Int) ≤ (g : Int) := by omega
    have hg0 : ((g : Int) == 0) = false := beq_eq_false_iff_ne.2 (by omega)
    rw [he.out]
    go_enter Try.func27, Try.ntmps27
    go_wp2_with (first | (go_at_call 66; (first | refine drewN_after2 (rinBounds_t _ _ _ _ HI.out) ?_ | refine drewN_after (rinBounds_t _ _ _ _ HI.out) ?_); intro x1) | (go_at_call 67; (first | refine drewN_after2 (divisor_any _ _ _ (by omega) (by omega) (by omega) (by omega)) ?_ | refine drewN_after (divisor_any _ _ _ (by omega) (by omega) (by omega) (by omega)) ?_); intro x2))
    rw [HG.out]
    go_region
    go_wp2
    go_returns
    exact ⟨rfl, by (repeat' (first | (with_reducible exact Below.refl _ _) | (with_reducible assumption) | (with_reducible refine Below.alloc ?_ ?_ _) | (with_reducible refine Below.drew ?_) | (with_reducible refine below_drewN ?_ _) | (with_reducible refine Below.setCell ?_ ?_ _) | (with_reducible refine below_after ?_ ?_ _) | (with_reducible refine below_set ?_) | (with_reducible refine After.size_le _ ?_) | (with_reducible refine size_alloc_le ?_) | (with_reducible refine size_set_le ?_) | (with_reducible refine size_drewN_le ?_) | go_size))⟩
  · have HI := Lib.hid hI
    have e : mkA a b d = 0 ∧ mkB a b d = 0 ∧ mkD a b d = 0 ∧ mkE a b d = 7 := by simp [mkA, mkB, mkD, mkE, hI]
    rw [e.1, e.2.1, e.2.2.1, e.2.2.2]
    clear hI e
    go_enter Try.func27, Try.ntmps27
    go_wp2_with (first | (go_at_call 66; (first | refine drewN_after2 (rinBounds_f _ _ _ _ HI.out) ?_ | refine drewN_after (rinBounds_f _ _ _ _ HI.out) ?_); intro x1))
    go_returns
    exact ⟨rfl, by (repeat' (first | (with_reducible exact Below.refl _ _) | (with_reducible assumption) | (with_reducible refine Below.alloc ?_ ?_ _) | (with_reducible refine Below.drew ?_) | (with_reducible refine below_drewN ?_ _) | (with_reducible refine Below.setCell ?_ ?_ _) | (with_reducible refine below_after ?_ ?_ _) | (with_reducible refine below_set ?_) | (with_reducible refine After.size_le _ ?_) | (with_reducible refine size_alloc_le ?_) | (with_reducible refine size_set_le ?_) | (with_reducible refine size_drewN_le ?_) | go_size))⟩

/-! ### Fractions in lowest terms -/
def ratN (n d : Int) : Int := n.tdiv (Int.gcd n d)
def ratD (n d : Int) : Int := d.tdiv (Int.gcd n d)

set_option maxRecDepth 100000 in
set_option maxHeartbeats 400000 in
theorem ratio_any (n d : Int) (w : World) (h1 : -1000000000000000000 ≤ n) (h2 : n ≤ 1000000000000000000) (h3 : 1 ≤ d) (h4 : d ≤ 1000000000000000000) :
    Calls Try.prog 69 #[.int .i64 n, .int .i64 d] w fun e w' => e = .returned (.agg #[.int .i64 (ratN n d), .int .i64 (ratD n d)]) ∧ Below w.heap.size w w' := by
  have hg : 1 ≤ Int.gcd n d := Int.gcd_pos_of_ne_zero_right _ (by omega)
  have hq1 : d / (Int.gcd n d : Int) ≤ 1000000000000000000 := Int.le_trans (Int.ediv_le_self _ (by omega)) h4
  have hq0 : 0 ≤ d / (Int.gcd n d : Int) := Int.ediv_nonneg (by omega) (by omega)
  have he : Hid (ratD n d = d / (Int.gcd n d : Int)) := Int.tdiv_eq_ediv_of_nonneg (by omega)
  have he' : Hid (ratN n d = n.tdiv (Int.gcd n d : Int)) := rfl
  rw [he.out, he'.out]
  clear he he'
  have HG : Hid (Nat.gcd n.natAbs d.natAbs = Int.gcd n d) := rfl
  generalize Int.gcd n d = g at *
  have hg' : (1 : Int) ≤ (g : Int) := by omega
  have hg0 : ((g : Int) == 0) = false := beq_eq_false_iff_ne.2 (by omega)
  obtain ⟨m, rfl⟩ := Int.eq_ofNat_of_zero_le (show 0 ≤ d by omega)
  rw [Int.natAbs_natCast] at HG
  go_enter Try.func69, Try.ntmps69
  go_wp2_with (first | (go_at_call 73; refine (abs_any _ _ (by omega) (by omega)).mono ?_; rintro e w1 ⟨rfl, rfl⟩) | (go_at_call 101; (first | refine drewN_after2 (common_any _ _ _ (by omega) (by omega)) ?_ | refine drewN_after (common_any _ _ _ (by omega) (by omega)) ?_); intro x2))
  rw [HG.out]
  go_region
  go_wp2
  go_returns
  exact ⟨rfl, by (repeat' (first | (with_reducible exact Below.refl _ _) | (with_reducible assumption) | (with_reducible refine Below.alloc ?_ ?_ _) | (with_reducible refine Below.drew ?_) | (with_reducible refine below_drewN ?_ _) | (with_reducible refine Below.setCell ?_ ?_ _) | (with_reducible refine below_after ?_ ?_ _) | (with_reducible refine below_set ?_) | (with_reducible refine After.size_le _ ?_) | (with_reducible refine size_alloc_le ?_) | (with_reducible refine size_set_le ?_) | (with_reducible refine size_drewN_le ?_) | go_size))⟩

set_option maxRecDepth 100000 in
set_option maxHeartbeats 400000 in
theorem rlowest_any (n d : Int) (w : World) (h1 : -1000000000000000000 ≤ n) (h2 : n ≤ 1000000000000000000) (h3 : 1 ≤ d) (h4 : d ≤ 1000000000000000000) :
    Calls Try.prog 71 #[.int .i64 n, .int .i64 d] w fun e w' => e = .returned (.agg #[.int .i64 (ratN n d), .int .i64 (ratD n d)]) ∧ Below w.heap.size w w' := by
  have hg : 1 ≤ Int.gcd n d := Int.gcd_pos_of_ne_zero_right _ (by omega)
  have hq1 : d / (Int.gcd n d : Int) ≤ 1000000000000000000 := Int.le_trans (Int.ediv_le_self _ (by omega)) h4
  have hq0 : 0 ≤ d / (Int.gcd n d : Int) := Int.ediv_nonneg (by omega) (by omega)
  have he : Hid (ratD n d = d / (Int.gcd n d : Int)) := Int.tdiv_eq_ediv_of_nonneg (by omega)
  have he' : Hid (ratN n d = n.tdiv (Int.gcd n d : Int)) := rfl
  rw [he.out, he'.out]
  clear he he'
  have hg' : (1 : Int) ≤ (Int.gcd n d : Int) := by omega
  have hg0 : ((Int.gcd n d : Int) == 0) = false := beq_eq_false_iff_ne.2 (by omega)
  go_enter Try.func71, Try.ntmps71
  go_wp2_with (first | (go_at_call 67; refine drewN_after (divisor_any _ _ _ (by omega) (by omega) (by omega) (by omega)) ?_; intro x2))
  go_region
  go_wp2
  go_returns
  exact ⟨rfl, by (repeat' (first | (with_reducible exact Below.refl _ _) | (with_reducible assumption) | (with_reducible refine Below.alloc ?_ ?_ _) | (with_reducible refine Below.drew ?_) | (with_reducible refine below_drewN ?_ _) | (with_reducible refine Below.setCell ?_ ?_ _) | (with_reducible refine below_after ?_ ?_ _) | (with_reducible refine below_set ?_) | (with_reducible refine After.size_le _ ?_) | (with_reducible refine size_alloc_le ?_) | (with_reducible refine size_set_le ?_) | (with_reducible refine size_drewN_le ?_) | go_size))⟩
end Go.Proofs.Ytdhobjflfhijjaa
