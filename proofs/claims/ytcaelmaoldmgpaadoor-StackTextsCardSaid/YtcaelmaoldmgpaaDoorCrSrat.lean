/- Fractions in lowest terms, of numbers near the 64 bits, in both programs. -/
import Derived.Test.YtcaelmaoldmgpaaDoorCrCrt
import Derived.Test.YtcaelmaoldmgpaaDoorCrRMath
namespace Go.Proofs.YtcaelmaoldmgpaaDoor.Cr
open Go.Proofs.YtcaelmaoldmgpaaDoor
open Go.RowKit
attribute [local go_sem] After.cell After.frozen After.lt After.le After.ne After.ne' After.set_eq After.size_set After.lt_add

theorem ret_int {k : IntKind} {a b : Int} (h : a = b) : Ending.returned (.int k a) = .returned (.int k b) := by rw [h]
theorem gcd_step (a b : Nat) (_h : b ≠ 0) : Nat.gcd b (a % b) = Nat.gcd a b := by
  rw [Nat.gcd_comm a b, Nat.gcd_rec b a, Nat.gcd_comm]
theorem gcdI_step (a b : Int) (h : b ≠ 0) : Int.gcd b (a.tmod b) = Int.gcd a b := by
  unfold Int.gcd
  rw [Int.natAbs_tmod]
  exact gcd_step _ _ (by omega)
theorem tmod_lt (a b : Int) (h : b ≠ 0) : (a.tmod b).natAbs < b.natAbs := by
  rw [Int.natAbs_tmod]; exact Nat.mod_lt _ (by omega)
theorem gcd_flipI (n : Int) (d : Nat) : Int.gcd n (d : Int) = Nat.gcd d n.natAbs := by
  rw [Int.gcd_comm]; simp [Int.gcd]

set_option maxHeartbeats 400000 in
theorem sabs_any (n : Int) (w : World) (h1 : -9000000000000000000 ≤ n) (h2 : n ≤ 9000000000000000000) :
    Calls Tryd.prog 69 #[.int .i64 n] w fun e w' => e = .returned (.int .i64 (n.natAbs : Nat)) ∧ w = w' := by
  go_enter Tryd.func69, Tryd.ntmps69
  go_wp2
  all_goals
    go_ret
    exact ⟨ret_int (by omega), rfl⟩

set_option maxRecDepth 100000 in
set_option maxHeartbeats 1000000 in
theorem sratio_any (n d : Int) (w : World) (h1 : -9000000000000000000 ≤ n) (h2 : n ≤ 9000000000000000000) (h3 : 1 ≤ d) (h4 : d ≤ 9000000000000000000) :
    Calls Tryd.prog 41 #[.int .i64 n, .int .i64 d] w fun e w' => e = .returned (.agg #[.int .i64 (ratN n d), .int .i64 (ratD n d)]) ∧ Below w.heap.size w w' := by
  obtain ⟨d, rfl⟩ := Int.eq_ofNat_of_zero_le (show 0 ≤ d by omega)
  have hg : 1 ≤ Int.gcd n (d : Int) := Int.gcd_pos_of_ne_zero_right _ (by omega)
  have he : Hid (ratD n d = (d : Int) / (Int.gcd n (d : Int) : Int)) := Int.tdiv_eq_ediv_of_nonneg (by omega)
  have he' : Hid (ratN n d = n.tdiv (Int.gcd n (d : Int) : Int)) := rfl
  rw [he.out, he'.out]
  clear he he'
  rw [gcd_flipI] at *
  have HA := Lib.hid (fun W => sabs_any n W h1 h2)
  go_enter Tryd.func41, Tryd.ntmps41
  go_wp2_with (go_at_call 69; refine (HA.out _).mono ?_; rintro e w1 ⟨rfl, rfl⟩)
  go_loopw [5, 6] (fun x y wr => ∃ p q : Nat, x = .int .i64 p ∧ y = .int .i64 q ∧ p ≤ 9000000000000000000 ∧ q ≤ 9000000000000000000 ∧ Nat.gcd p q = Nat.gcd d n.natAbs ∧ ∃ m, wr = (w.alloc (.cells #[.int .i64 0, .int .i64 0] 40)).drewN m) (fun _ y _ => (intOf y).toNat)
  case atStart => exact ⟨d, n.natAbs, rfl, rfl, by omega, by omega, rfl, 0, rfl⟩
  case round =>
    obtain ⟨p, q, rfl, rfl, hp, hq, hgp, m, rfl⟩ := hrel
    have HG := Lib.hid hgp
    clear hgp
    by_cases h0 : q = 0
    · subst h0
      have HP : Hid (p = Nat.gcd d n.natAbs) := by show _ = _; rw [← HG.out, Nat.gcd_zero_right]
      clear HG
      have hp1 : 1 ≤ p := by rw [HP.out]; exact hg
      have hp0 : ((p : Int) == 0) = false := beq_eq_false_iff_ne.2 (by omega)
      have q3 : 0 ≤ (d : Int) / (p : Int) := Int.ediv_nonneg (by omega) (by omega)
      have q4 : (d : Int) / (p : Int) ≤ 9000000000000000000 := Int.le_trans (Int.ediv_le_self _ (by omega)) (by omega)
      clear hg
      go_wp2
      go_region
      go_wp2
      go_returns
      exact ⟨by rw [← HP.out], by (repeat' (first | (with_reducible exact Below.refl _ _) | (with_reducible assumption) | (with_reducible refine Below.alloc ?_ ?_ _) | (with_reducible refine Below.drew ?_) | (with_reducible refine below_drewN ?_ _) | (with_reducible refine Below.setCell ?_ ?_ _) | (with_reducible refine below_after ?_ ?_ _) | (with_reducible refine below_set ?_) | (with_reducible refine After.size_le _ ?_) | (with_reducible refine size_alloc_le ?_) | (with_reducible refine size_set_le ?_) | (with_reducible refine size_drewN_le ?_) | go_size))⟩
    · have hq1 : 0 < q := by omega
      have hr : ((q : Int) == 0) = false := beq_eq_false_iff_ne.2 (by omega)
      go_wp2
      go_quiet (fail)
      go_wp2
      go_roundw
      case rel => exact ⟨q, p % q, rfl, by go_num, by omega, by have := Nat.mod_lt p hq1; omega, by rw [gcd_step _ _ h0]; exact HG.out, _, World.drewN_drewN _ _ _⟩
      case measure => simp [intOf]; have := Nat.mod_lt p hq1; omega
end Go.Proofs.YtcaelmaoldmgpaaDoor.Cr
