/- Contracts of the small functions on numbers, in both programs. -/
import Derived.Test.YtccjfmhbmieigaaDoorProg
import Derived.Test.YtccjfmhbmieigaaDoorAfter
import Derived.Test.YtccjfmhbmieigaaDoorRoRMath
import Derived.WalkKit
import Derived.WalkSpells
import Derived.WalkLawsBesides
import Derived.Deep.QuietTactic
import Derived.BigQuiet
import Derived.Deep.RegionHeld3
import Derived.Deep.RegionWith
import Derived.RegionTactic
import Derived.LoopTactic
import Derived.Lib.Hide
import Derived.Below
import Derived.KernelRfl
import Derived.Handy
import Derived.StillTailTactics
namespace Go.Proofs.YtccjfmhbmieigaaDoor.Ro
open Go.Proofs.YtccjfmhbmieigaaDoor
open Go.RowKit
attribute [local go_sem] After.cell After.frozen After.lt After.le After.ne After.ne' After.set_eq After.size_set After.lt_add

theorem ret_int {k : IntKind} {a b : Int} (h : a = b) : Ending.returned (.int k a) = .returned (.int k b) := by rw [h]
theorem ret_bool {a b : Bool} (h : a = b) : Ending.returned (.bool a) = .returned (.bool b) := by rw [h]
theorem ret_dec {p : Prop} [Decidable p] {a : Bool} (h : a = true ↔ p) : Ending.returned (.bool a) = .returned (.bool (decide p)) := by
  by_cases hp : p
  · simp [hp, h.2 hp]
  · have : a = false := by cases a with | false => rfl | true => exact absurd (h.1 rfl) hp
    simp [hp, this]
theorem ret_two {k k' : IntKind} {a b a' b' : Int} (h : a = b) (h' : a' = b') : Ending.returned (.tuple #[.int k a, .int k' a']) = .returned (.tuple #[.int k b, .int k' b']) := by rw [h, h']

theorem gcd_step (a b : Nat) (_h : b ≠ 0) : Nat.gcd b (a % b) = Nat.gcd a b := by
  rw [Nat.gcd_comm a b, Nat.gcd_rec b a, Nat.gcd_comm]
theorem gcdI_step (a b : Int) (h : b ≠ 0) : Int.gcd b (a.tmod b) = Int.gcd a b := by
  unfold Int.gcd
  rw [Int.natAbs_tmod]
  exact gcd_step _ _ (by omega)
theorem tmod_lt (a b : Int) (h : b ≠ 0) : (a.tmod b).natAbs < b.natAbs := by
  rw [Int.natAbs_tmod]; exact Nat.mod_lt _ (by omega)

theorem gcd_flip (n d : Nat) : Int.gcd (n : Int) (d : Int) = Nat.gcd d n := by
  rw [Int.gcd_comm]; simp [Int.gcd]

set_option maxRecDepth 100000 in
set_option maxHeartbeats 400000 in
theorem ratio_any (n d : Nat) (w : World) (h2 : n ≤ 1000000000000000000) (h3 : 1 ≤ d) (h4 : d ≤ 1000000000000000000) :
    Calls Tryd.prog 80 #[.int .i64 n, .int .i64 d] w fun e w' => e = .returned (.agg #[.int .i64 (ratN n d), .int .i64 (ratD n d)]) ∧ Below w.heap.size w w' := by
  have hg : 1 ≤ Int.gcd (n : Int) (d : Int) := Int.gcd_pos_of_ne_zero_right _ (by omega)
  have he : Hid (ratD n d = (d : Int) / (Int.gcd (n : Int) (d : Int) : Int)) := Int.tdiv_eq_ediv_of_nonneg (by omega)
  have he' : Hid (ratN n d = (n : Int) / (Int.gcd (n : Int) (d : Int) : Int)) := Int.tdiv_eq_ediv_of_nonneg (by omega)
  rw [he.out, he'.out]
  clear he he'
  rw [gcd_flip] at *
  go_enter Tryd.func80, Tryd.ntmps80
  go_wp2
  go_loopw [5, 6] (fun x y wr => ∃ p q : Nat, x = .int .i64 p ∧ y = .int .i64 q ∧ p ≤ 1000000000000000000 ∧ q ≤ 1000000000000000000 ∧ Nat.gcd p q = Nat.gcd d n ∧ ∃ m, wr = (w.alloc (.cells #[.int .i64 0, .int .i64 0] 40)).drewN m) (fun _ y _ => (intOf y).toNat)
  case atStart => exact ⟨d, n, rfl, rfl, h4, h2, rfl, 0, rfl⟩
  case round =>
    obtain ⟨p, q, rfl, rfl, hp, hq, hgp, m, rfl⟩ := hrel
    have HG := Lib.hid hgp
    clear hgp
    by_cases h0 : q = 0
    · subst h0
      have HP : Hid (p = Nat.gcd d n) := by show _ = _; rw [← HG.out, Nat.gcd_zero_right]
      clear HG
      have hp1 : 1 ≤ p := by rw [HP.out]; exact hg
      have hp0 : ((p : Int) == 0) = false := beq_eq_false_iff_ne.2 (by omega)
      have q1 : 0 ≤ (n : Int) / (p : Int) := Int.ediv_nonneg (by omega) (by omega)
      have q2 : (n : Int) / (p : Int) ≤ 1000000000000000000 := Int.le_trans (Int.ediv_le_self _ (by omega)) (by omega)
      have q3 : 0 ≤ (d : Int) / (p : Int) := Int.ediv_nonneg (by omega) (by omega)
      have q4 : (d : Int) / (p : Int) ≤ 1000000000000000000 := Int.le_trans (Int.ediv_le_self _ (by omega)) (by omega)
      clear hg
      go_wp2
      go_region
      go_wp2
      go_returns
      exact ⟨by rw [← HP.out], by (repeat' (first | (with_reducible exact Below.refl _ _) | (with_reducible assumption) | (with_reducible refine Below.alloc ?_ ?_ _) | (with_reducible refine Below.drew ?_) | (with_reducible refine below_drewN ?_ _) | (with_reducible refine Below.setCell ?_ ?_ _) | (with_reducible refine below_after ?_ ?_ _) | (with_reducible refine below_set ?_) | (with_reducible refine After.size_le _ ?_) | (with_reducible refine size_alloc_le ?_) | (with_reducible refine size_set_le ?_) | (with_reducible refine size_drewN_le ?_) | go_size))⟩
    · have hq1 : 0 < q := by omega
      have hr : ((q : Int) == 0) = false := beq_eq_false_iff_ne.2 (by omega)
      go_wp2
      go_quiet (fail)
      go_wp2
      go_roundw
      case rel => exact ⟨q, p % q, rfl, by go_num, by omega, by have := Nat.mod_lt p hq1; omega, by rw [gcd_step _ _ h0]; exact HG.out, _, World.drewN_drewN _ _ _⟩
      case measure => simp [intOf]; have := Nat.mod_lt p hq1; omega

theorem ratioI_any (n d : Int) (w : World) (h1 : 0 ≤ n) (h2 : n ≤ 1000000000000000000) (h3 : 1 ≤ d) (h4 : d ≤ 1000000000000000000) :
    Calls Tryd.prog 80 #[.int .i64 n, .int .i64 d] w fun e w' => e = .returned (.agg #[.int .i64 (ratN n d), .int .i64 (ratD n d)]) ∧ Below w.heap.size w w' := by
  obtain ⟨a, rfl⟩ := Int.eq_ofNat_of_zero_le h1
  obtain ⟨b, rfl⟩ := Int.eq_ofNat_of_zero_le (show 0 ≤ d by omega)
  exact ratio_any a b w (by omega) (by omega) (by omega)

theorem up_any (n d : Int) (w : World) (h1 : 0 ≤ n) (h2 : n ≤ 1000000000000000000) (h3 : 1 ≤ d) (h4 : d ≤ 1000000000000000000) :
    Calls Tryd.prog 83 #[.int .i64 n, .int .i64 d] w fun e w' => e = .returned (.int .i64 (ceilD n d)) ∧ Below w.heap.size w w' := by
  have hc := Lib.hid (ceil_up (n := n) h3)
  have hd0 : (d == 0) = false := beq_eq_false_iff_ne.2 (by omega)
  go_enter Tryd.func83, Tryd.ntmps83
  go_wp2
  go_ret
  exact ⟨ret_int hc.out, Below.refl _ _⟩

theorem floor_fix {n d : Int} (hd : 1 ≤ d) : (n < n.tdiv d * d → n.tdiv d - 1 = n / d) ∧ (n.tdiv d * d ≤ n → n.tdiv d = n / d) := by
  have h1 := Int.mul_ediv_add_emod n d
  have h2 := Int.emod_nonneg n (show d ≠ 0 by omega)
  have h3 := Int.emod_lt_of_pos n (show 0 < d by omega)
  have h4 := Int.tdiv_eq_ediv (a := n) (b := d)
  have h5 : d * (n / d) = n / d * d := Int.mul_comm _ _
  have h6 : (n / d + 1) * d = n / d * d + d := by rw [Int.add_mul, Int.one_mul]
  have h7 : d.sign = 1 := Int.sign_eq_one_of_pos (by omega)
  rw [h7] at h4
  split at h4
  · rw [h4]; simp only [Int.add_zero]
    exact ⟨fun h => by omega, fun _ => by first | rfl | trivial⟩
  · rename_i hx
    rw [h4, h6]
    refine ⟨fun h => by omega, fun h => ?_⟩
    exfalso
    have : n % d = 0 := by omega
    exact hx (Or.inr (Int.dvd_of_emod_eq_zero this))
/-! ### Ranges -/
def Btw (n a b : Int) : Prop := a ≤ n ∧ n ≤ b
instance (n a b : Int) : Decidable (Btw n a b) := by unfold Btw; infer_instance
theorem between_any (n a b : Int) (w : World) :
    Calls Tryd.prog 65 #[.int .i64 n, .int .i64 a, .int .i64 b] w fun e w' => e = .returned (.bool (decide (Btw n a b))) ∧ w = w' := by
  go_enter Tryd.func65, Tryd.ntmps65
  go_wp2
  all_goals
    go_ret
    exact ⟨ret_dec (by unfold Btw; simp; omega), rfl⟩
theorem within_any (n a b : Int) (w : World) :
    Calls Tryd.prog 37 #[.int .i64 n, .int .i64 a, .int .i64 b] w fun e w' => e = .returned (.bool (decide (Btw n a b))) ∧ w = w' := by
  go_enter Tryd.func37, Tryd.ntmps37
  go_wp2
  all_goals
    go_ret
    exact ⟨ret_dec (by unfold Btw; simp; omega), rfl⟩
theorem between_t (n a b : Int) (w : World) (h : Btw n a b) : Calls Tryd.prog 65 #[.int .i64 n, .int .i64 a, .int .i64 b] w fun e w' => e = .returned (.bool true) ∧ w = w' :=
  (between_any n a b w).mono fun _ _ ⟨h1, h2⟩ => ⟨by rw [h1]; simp [h], h2⟩
theorem between_f (n a b : Int) (w : World) (h : ¬ Btw n a b) : Calls Tryd.prog 65 #[.int .i64 n, .int .i64 a, .int .i64 b] w fun e w' => e = .returned (.bool false) ∧ w = w' :=
  (between_any n a b w).mono fun _ _ ⟨h1, h2⟩ => ⟨by rw [h1]; simp [h], h2⟩
theorem within_t (n a b : Int) (w : World) (h : Btw n a b) : Calls Tryd.prog 37 #[.int .i64 n, .int .i64 a, .int .i64 b] w fun e w' => e = .returned (.bool true) ∧ w = w' :=
  (within_any n a b w).mono fun _ _ ⟨h1, h2⟩ => ⟨by rw [h1]; simp [h], h2⟩
theorem within_f (n a b : Int) (w : World) (h : ¬ Btw n a b) : Calls Tryd.prog 37 #[.int .i64 n, .int .i64 a, .int .i64 b] w fun e w' => e = .returned (.bool false) ∧ w = w' :=
  (within_any n a b w).mono fun _ _ ⟨h1, h2⟩ => ⟨by rw [h1]; simp [h], h2⟩
/-- A load, a weight, a pull, a limit. -/
abbrev Ld (n : Int) : Prop := Btw n 0 1000000
theorem validLoad_any (n : Int) (b : Bool) (hb : decide (Ld n) = b) (w : World) :
    Calls Tryd.prog 59 #[.int .i64 n] w fun e w' => e = .returned (.bool b) ∧ w = w' := by
  have H := Lib.hid (fun w => between_any n 0 1000000 w)
  have HB : Hid (decide (Btw n 0 1000000) = b) := hb
  clear hb
  go_enter Tryd.func59, Tryd.ntmps59
  go_wp2_with (go_at_call 65; rw [HB.out] at H; refine (H.out _).mono ?_; rintro e w' ⟨rfl, rfl⟩)
  go_ret
  exact ⟨rfl, rfl⟩
theorem rload_any (n : Int) (b : Bool) (hb : decide (Ld n) = b) (w : World) :
    Calls Tryd.prog 38 #[.int .i64 n] w fun e w' => e = .returned (.bool b) ∧ w = w' := by
  have H := Lib.hid (fun w => within_any n 0 1000000 w)
  have HB : Hid (decide (Btw n 0 1000000) = b) := hb
  clear hb
  go_enter Tryd.func38, Tryd.ntmps38
  go_wp2_with (go_at_call 37; rw [HB.out] at H; refine (H.out _).mono ?_; rintro e w' ⟨rfl, rfl⟩)
  go_ret
  exact ⟨rfl, rfl⟩
theorem validKeep_any (n : Int) (b : Bool) (hb : decide (Btw n 1 100) = b) (w : World) :
    Calls Tryd.prog 82 #[.int .i64 n] w fun e w' => e = .returned (.bool b) ∧ w = w' := by
  have H := Lib.hid (fun w => between_any n 1 100 w)
  have HB : Hid (decide (Btw n 1 100) = b) := hb
  clear hb
  go_enter Tryd.func82, Tryd.ntmps82
  go_wp2_with (go_at_call 65; rw [HB.out] at H; refine (H.out _).mono ?_; rintro e w' ⟨rfl, rfl⟩)
  go_ret
  exact ⟨rfl, rfl⟩
end Go.Proofs.YtccjfmhbmieigaaDoor.Ro
