/- RopeLevers: the law's walk. -/
import Derived.Test.YtciicijindanlaaTestr
import Derived.Test.YtciicijindanlaaLeverm
import Derived.Test.YtciicijindanlaaPcopy
import Derived.OwnWalk
namespace Go.Proofs.Ytciicijindanlaa
open Go.RowKit
attribute [local go_sem 10000] eql_ratio neq_ratio
attribute [local go_sem] After.cell After.frozen After.lt After.le After.ne After.ne' After.set_eq After.size_set After.lt_add eq2_self

set_option maxRecDepth 100000 in
set_option maxHeartbeats 1000000 in
theorem ropeLevers_long (s : Int) (a : Option Addr) (n cap : Nat) (i to : Int) (w : World) (h : 20 < n) :
    Calls Try.prog 9 #[.agg #[.int .i64 s, .slice a n cap], .int .i64 i, .int .i64 to] w fun e w' => e = .returned (.bool true) ∧ Below w.heap.size w w' := by
  have d1 : decide ((20 : Int) < (n : Int)) = true := decide_eq_true (by omega)
  go_enter Try.func9, Try.ntmps9
  go_wp2_with fail
  refine calls_after (awake_any _) ?_
  intro x1
  go_wp2
  go_ret
  exact ⟨rfl, by (repeat' (first | (with_reducible exact Below.refl _ _) | (with_reducible assumption) | (with_reducible refine Below.alloc ?_ ?_ _) | (with_reducible refine Below.drew ?_) | (with_reducible refine below_drewN ?_ _) | (with_reducible refine Below.setCell ?_ ?_ _) | (with_reducible refine below_after ?_ ?_ _) | (with_reducible refine below_set ?_) | (with_reducible refine After.size_le _ ?_) | (with_reducible refine size_alloc_le ?_) | (with_reducible refine size_set_le ?_) | (with_reducible refine size_drewN_le ?_) | go_size))⟩
set_option maxRecDepth 100000 in
set_option maxHeartbeats 1000000 in
theorem ropeLevers_bad (s : Int) (v : Value) (ps : List (Int × Int)) (i to : Int) (w : World) (h : Prs w w.heap.size v ps) (hl : ps.length ≤ 20) (hG : ¬ GoodL s ps) :
    Calls Try.prog 9 #[.agg #[.int .i64 s, v], .int .i64 i, .int .i64 to] w fun e w' => e = .returned (.bool true) ∧ Below w.heap.size w w' := by
  obtain ⟨a, cap, hv⟩ := prs_slice h
  have HS : Hid (∀ W, Below w.heap.size w W → _) := fun W hW => sharesR_any s v ps W (prs_on h hW)
  have e : shE s ps = 1 := by simp [shE, hG]
  rw [e] at HS
  subst hv
  clear h hG e
  generalize s1N s ps = aN at *
  generalize s1D s ps = aD at *
  generalize s2N s ps = bN at *
  generalize s2D s ps = bD at *
  generalize ps.length = n at *
  have d1 : decide ((20 : Int) < (n : Int)) = false := decide_eq_false (by omega)
  go_enter Try.func9, Try.ntmps9
  go_wp2_with fail
  refine calls_after (HS.out _ (by (repeat' (first | (with_reducible exact Below.refl _ _) | (with_reducible assumption) | (with_reducible refine Below.alloc ?_ ?_ _) | (with_reducible refine Below.drew ?_) | (with_reducible refine below_drewN ?_ _) | (with_reducible refine Below.setCell ?_ ?_ _) | (with_reducible refine below_after ?_ ?_ _) | (with_reducible refine below_set ?_) | (with_reducible refine After.size_le _ ?_) | (with_reducible refine size_alloc_le ?_) | (with_reducible refine size_set_le ?_) | (with_reducible refine size_drewN_le ?_) | go_size)))) ?_
  intro x1
  go_wp2_with fail
  refine calls_after (awake_any _) ?_
  intro x2
  go_wp2
  go_ret
  exact ⟨rfl, by (repeat' (first | (with_reducible exact Below.refl _ _) | (with_reducible assumption) | (with_reducible refine Below.alloc ?_ ?_ _) | (with_reducible refine Below.drew ?_) | (with_reducible refine below_drewN ?_ _) | (with_reducible refine Below.setCell ?_ ?_ _) | (with_reducible refine below_after ?_ ?_ _) | (with_reducible refine below_set ?_) | (with_reducible refine After.size_le _ ?_) | (with_reducible refine size_alloc_le ?_) | (with_reducible refine size_set_le ?_) | (with_reducible refine size_drewN_le ?_) | go_size))⟩

theorem bcell2 {W W1 : World} (hb : Below W.heap.size W W1) : (∀ b o, b < W.heap.size → W1.cell? ⟨b, o, none⟩ = W.cell? ⟨b, o, none⟩) ∧ (∀ b o, b < W.heap.size → W1.frozen? ⟨b, o, none⟩ = W.frozen? ⟨b, o, none⟩) :=
  ⟨fun b o h => hb.cell (p := ⟨b, o, none⟩) h, fun b o h => hb.frozen (p := ⟨b, o, none⟩) h⟩
set_option maxRecDepth 100000 in
set_option maxHeartbeats 2000000 in
theorem ropeLevers_ok (s : Int) (v : Value) (ps : List (Int × Int)) (i to : Int) (w : World) (h : Prs w w.heap.size v ps) (hG : GoodL s ps) :
    Calls Try.prog 9 #[.agg #[.int .i64 s, v], .int .i64 i, .int .i64 to] w fun e w' => e = .returned (.bool true) ∧ Below w.heap.size w w' := by
  obtain ⟨a, cap, hv⟩ := prs_slice h
  have HA : Hid (0 < ps.length → ∃ b off, a = some ⟨b, off, none⟩ ∧ b < w.heap.size ∧ PrCells w b off ps) := fun h0 => by
    rcases h with ⟨_, _, _, rfl⟩ | ⟨b, off, c', e, hb, _, hc⟩
    · simp at h0
    · rw [hv] at e; cases e; exact ⟨b, off, rfl, hb, hc⟩
  have HS : Hid (∀ W, Below w.heap.size w W → _) := fun W hW => sharesR_any s v ps W (prs_on h hW)
  have e : shE s ps = 0 ∧ s1N s ps = ratN (fS s ps) s ∧ s1D s ps = ratD (fS s ps) s ∧ s2N s ps = ratN (sS ps) s ∧ s2D s ps = ratD (sS ps) s := by simp [shE, s1N, s1D, s2N, s2D, hG]
  rw [e.1, e.2.1, e.2.2.1, e.2.2.2.1, e.2.2.2.2] at HS
  have hl := hG.2.1
  obtain ⟨s1, s2⟩ := hG.1
  obtain ⟨b1, b2, b3, b4, b5, b6⟩ := all_bd hG
  have d1 : decide ((20 : Int) < (ps.length : Int)) = false := decide_eq_false (by omega)
  obtain ⟨_, _, _, g1, _⟩ := rat_facts (n := fS s ps) (d := s) s1
  obtain ⟨_, _, _, g2, _⟩ := rat_facts (n := sS ps) (d := s) s1
  have g3 : ratD (fS s ps) s ≤ 100000 := Int.le_trans (ratD_le s1) s2
  have g4 : ratD (sS ps) s ≤ 100000 := Int.le_trans (ratD_le s1) s2
  obtain ⟨g5, g6⟩ := ratN_le (d := s) s1 b1
  obtain ⟨g7, g8⟩ := ratN_le (d := s) s1 b3
  have hSum := rat_sum s1 (fS_add s ps)
  have m1 : 0 ≤ ratN (fS s ps) s * ratD (sS ps) s ∧ ratN (fS s ps) s * ratD (sS ps) s ≤ 2000000000000 * 100000 := ⟨Int.mul_nonneg g5 (by omega), Int.mul_le_mul (by omega) g4 (by omega) (by omega)⟩
  have m2 : 0 ≤ ratN (sS ps) s * ratD (fS s ps) s ∧ ratN (sS ps) s * ratD (fS s ps) s ≤ 2000000000000 * 100000 := ⟨Int.mul_nonneg g7 (by omega), Int.mul_le_mul (by omega) g3 (by omega) (by omega)⟩
  have m3 : 0 < ratD (fS s ps) s * ratD (sS ps) s := Int.mul_pos (by omega) (by omega)
  have m3' : ratD (fS s ps) s * ratD (sS ps) s ≤ 100000 * 100000 := Int.mul_le_mul g3 g4 (by omega) (by omega)
  have HLow := Lib.hid (fun W => rlowest_any (ratN (fS s ps) s * ratD (sS ps) s + ratN (sS ps) s * ratD (fS s ps) s) (ratD (fS s ps) s * ratD (sS ps) s) W (by omega) (by omega) (by omega) (by omega))
  rw [hSum.1, hSum.2] at HLow
  have HG := Lib.hid hG
  have HMv : Hid (∀ j : Nat, j < ps.length → (ldAt ps j).1 ≤ to → to ≤ s → ∀ v' W, Prs W W.heap.size v' (ps.set j (to, (ldAt ps j).2)) →
      ∃ cN cD dN dD p q : Int, 0 ≤ p ∧ q ≤ 0 ∧ (∀ W', Below W.heap.size W W' → Calls Try.prog 29 #[.int .i64 s, v'] W' fun e w' => e = .returned (.tuple #[.agg #[.int .i64 cN, .int .i64 cD], .agg #[.int .i64 dN, .int .i64 dD], .int .i64 0]) ∧ Below W'.heap.size W' w') ∧
        (∀ W, Calls Try.prog 28 #[.agg #[.int .i64 dN, .int .i64 dD], .agg #[.int .i64 (ratN (sS ps) s), .int .i64 (ratD (sS ps) s)]] W fun e w' => e = .returned (.int .i64 p) ∧ Below W.heap.size W w') ∧
        (∀ W, Calls Try.prog 28 #[.agg #[.int .i64 cN, .int .i64 cD], .agg #[.int .i64 (ratN (fS s ps) s), .int .i64 (ratD (fS s ps) s)]] W fun e w' => e = .returned (.int .i64 q) ∧ Below W.heap.size W w')) := fun j hj h1 h2 v' W hv' => by
    obtain ⟨t1, t2, t3⟩ := lever_moved hG hj h1 h2
    have e : shE s (ps.set j (to, (ldAt ps j).2)) = 0 ∧ s1N s (ps.set j (to, (ldAt ps j).2)) = ratN (fS s (ps.set j (to, (ldAt ps j).2))) s ∧ s1D s (ps.set j (to, (ldAt ps j).2)) = ratD (fS s (ps.set j (to, (ldAt ps j).2))) s ∧ s2N s (ps.set j (to, (ldAt ps j).2)) = ratN (sS (ps.set j (to, (ldAt ps j).2))) s ∧ s2D s (ps.set j (to, (ldAt ps j).2)) = ratD (sS (ps.set j (to, (ldAt ps j).2))) s := by simp [shE, s1N, s1D, s2N, s2D, t1]
    obtain ⟨c1, c2, c3, c4, _, _⟩ := all_bd t1
    have i1 := rat_64 (n := fS s ps) s1 (by unfold In64; omega) (by unfold In64; omega)
    have i2 := rat_64 (n := sS ps) s1 (by unfold In64; omega) (by unfold In64; omega)
    have i3 := rat_64 (n := fS s (ps.set j (to, (ldAt ps j).2))) s1 (by unfold In64; omega) (by unfold In64; omega)
    have i4 := rat_64 (n := sS (ps.set j (to, (ldAt ps j).2))) s1 (by unfold In64; omega) (by unfold In64; omega)
    refine ⟨_, _, _, _, _, _, (cmp_over s1).2 t2, (cmp_over s1).1 t3, fun W' hW' => ?_, fun W => rcompare_any _ _ _ _ W i4.1 i4.2 i2.1 i2.2, fun W => rcompare_any _ _ _ _ W i3.1 i3.2 i1.1 i1.2⟩
    have := sharesR_any s v' _ W' (prs_on hv' hW')
    rw [e.1, e.2.1, e.2.2.1, e.2.2.2.1, e.2.2.2.2] at this
    exact this
  subst hv
  clear h hG e hSum
  generalize fS s ps = F at *
  generalize sS ps = T at *
  generalize ratN F s = aN at *
  generalize ratD F s = aD at *
  generalize ratN T s = bN at *
  generalize ratD T s = bD at *
  obtain ⟨m1, m1'⟩ := m1
  obtain ⟨m2, m2'⟩ := m2
  have d2 : decide (aD < 1) = false := decide_eq_false (by omega)
  have d3 : decide (bD < 1) = false := decide_eq_false (by omega)
  have d4 : decide (100000 < aD) = false := decide_eq_false (by omega)
  have d5 : decide (100000 < bD) = false := decide_eq_false (by omega)
  go_enter Try.func9, Try.ntmps9
  go_wp2_with fail
  refine calls_after (HS.out _ (by (repeat' (first | (with_reducible exact Below.refl _ _) | (with_reducible assumption) | (with_reducible refine Below.alloc ?_ ?_ _) | (with_reducible refine Below.drew ?_) | (with_reducible refine below_drewN ?_ _) | (with_reducible refine Below.setCell ?_ ?_ _) | (with_reducible refine below_after ?_ ?_ _) | (with_reducible refine below_set ?_) | (with_reducible refine After.size_le _ ?_) | (with_reducible refine size_alloc_le ?_) | (with_reducible refine size_set_le ?_) | (with_reducible refine size_drewN_le ?_) | go_size)))) ?_
  intro x1
  clear HS
  have hz_x1 := x1.out.size; (try simp only [World.size_alloc] at hz_x1); (try simp only [World.size_setCell] at hz_x1); (try simp only [World.size_alloc] at hz_x1); have k0_x1 : w.heap.size < x1.w.heap.size := (by omega); have j0_x1 : w.heap.size < x1.w.heap.size + 1 := (by omega)
  go_wp2_with fail
  go_loop [10, 11] (fun t i => ∃ k : Nat, k ≤ ps.length ∧ i = .int .i64 k ∧ t = .int .i64 (aS (ps.take k))) (fun _ i => ps.length - (intOf i).toNat)
  case atStart => exact ⟨0, by omega, rfl, rfl⟩
  case round =>
    obtain ⟨k, hk, rfl, rfl⟩ := hrel
    by_cases hlt : k < ps.length
    · obtain ⟨b, off, rfl, hb, hc⟩ := HA.out (by omega)
      obtain ⟨c1, c2⟩ := hc k hlt
      obtain ⟨_, _, _, _, t5, t6⟩ := take_bd HG.out k
      have E3 : Hid (aS (ps.take (k + 1)) = aS (ps.take k) + (ps.getD k (0, 0)).2) := Lib.hid (by rw [take_one' (0, 0) hlt, aS_snoc])
      obtain ⟨_, _, _, _, o5, o6, _, _, _, _⟩ := okL_bd HG.out.1 (HG.out.2.2 k hlt)
      unfold ldAt at o5 o6
      generalize ps.getD k (0, 0) = p at *
      obtain ⟨hh, vv⟩ := p
      dsimp only at *
      have y1 : b < w.heap.size + 1 := by omega
      have y2 : b < x1.w.heap.size := by omega
      have y3 : b < x1.w.heap.size + 1 := by omega
      clear hc HA HMv HLow
      go_wp2
      go_round
      case rel => exact ⟨k + 1, by omega, by go_num, by rw [E3.out]⟩
      case measure => simp [intOf]; omega
    · obtain rfl : k = ps.length := by omega
      rw [List.take_length]
      go_wp2_with fail
      refine calls_after (HLow.out _) ?_
      intro x2
      clear HLow
      have hz_x2 := x2.out.size; (try simp only [World.size_alloc] at hz_x2); (try simp only [World.size_setCell] at hz_x2); (try simp only [World.size_alloc] at hz_x2); have k0_x2 : w.heap.size < x2.w.heap.size := (by omega); have j0_x2 : w.heap.size < x2.w.heap.size + 1 := (by omega); have k1_x2 : x1.w.heap.size < x2.w.heap.size := (by omega); have j1_x2 : x1.w.heap.size < x2.w.heap.size + 1 := (by omega); have k2_x2 : x1.w.heap.size + 1 < x2.w.heap.size := (by omega); have j2_x2 : x1.w.heap.size + 1 < x2.w.heap.size + 1 := (by omega)
      by_cases j1 : i < 0
      · go_wp2_with fail
        refine calls_after2 (awake_any _) ?_
        intro x3
        go_wp2
        go_ret
        exact ⟨rfl, by (repeat' (first | (with_reducible exact Below.refl _ _) | (with_reducible assumption) | (with_reducible refine Below.alloc ?_ ?_ _) | (with_reducible refine Below.drew ?_) | (with_reducible refine below_drewN ?_ _) | (with_reducible refine Below.setCell ?_ ?_ _) | (with_reducible refine below_after ?_ ?_ _) | (with_reducible refine below_set ?_) | (with_reducible refine After.size_le _ ?_) | (with_reducible refine size_alloc_le ?_) | (with_reducible refine size_set_le ?_) | (with_reducible refine size_drewN_le ?_) | go_size))⟩
      obtain ⟨j, rfl⟩ := Int.eq_ofNat_of_zero_le (show 0 ≤ i by omega)
      by_cases j2 : ps.length ≤ j
      · have jd : decide ((j : Int) < (ps.length : Int)) = false := decide_eq_false (by omega)
        go_wp2_with fail
        refine calls_after2 (awake_any _) ?_
        intro x3
        go_wp2
        go_ret
        exact ⟨rfl, by (repeat' (first | (with_reducible exact Below.refl _ _) | (with_reducible assumption) | (with_reducible refine Below.alloc ?_ ?_ _) | (with_reducible refine Below.drew ?_) | (with_reducible refine below_drewN ?_ _) | (with_reducible refine Below.setCell ?_ ?_ _) | (with_reducible refine below_after ?_ ?_ _) | (with_reducible refine below_set ?_) | (with_reducible refine After.size_le _ ?_) | (with_reducible refine size_alloc_le ?_) | (with_reducible refine size_set_le ?_) | (with_reducible refine size_drewN_le ?_) | go_size))⟩
      have hj : j < ps.length := by omega
      have hji : (j : Int) < (ps.length : Int) := by omega
      clear j1 j2
      obtain ⟨b, off, rfl, hb, hc⟩ := HA.out (by omega)
      clear HA
      obtain ⟨c1, c2⟩ := hc j hj
      have HMj := Lib.hid (HMv.out j hj)
      have HC := Lib.hid hc
      have HPs := Lib.hid (show ldAt ps j = ps.getD j (0, 0) from rfl)
      rw [HPs.out] at HMj
      clear HMv hc
      have y1 : b < w.heap.size + 1 := by omega
      have y2 : b < x1.w.heap.size := by omega
      have y3 : b < x1.w.heap.size + 1 := by omega
      have y4 : b < x2.w.heap.size := by omega
      generalize hp : ps.getD j (0, 0) = p at *
      obtain ⟨hh, vv⟩ := p
      dsimp only at *
      by_cases j3 : to < hh
      · have jd : decide (to < hh) = true := decide_eq_true j3
        clear HMj HC
        go_wp2_with fail
        refine calls_after2 (awake_any _) ?_
        intro x3
        go_wp2
        go_ret
        exact ⟨rfl, by (repeat' (first | (with_reducible exact Below.refl _ _) | (with_reducible assumption) | (with_reducible refine Below.alloc ?_ ?_ _) | (with_reducible refine Below.drew ?_) | (with_reducible refine below_drewN ?_ _) | (with_reducible refine Below.setCell ?_ ?_ _) | (with_reducible refine below_after ?_ ?_ _) | (with_reducible refine below_set ?_) | (with_reducible refine After.size_le _ ?_) | (with_reducible refine size_alloc_le ?_) | (with_reducible refine size_set_le ?_) | (with_reducible refine size_drewN_le ?_) | go_size))⟩
      have jd3 : decide (to < hh) = false := decide_eq_false j3
      by_cases j4 : s < to
      · have jd : decide (s < to) = true := decide_eq_true j4
        clear HMj HC
        go_wp2_with fail
        refine calls_after2 (awake_any _) ?_
        intro x3
        go_wp2
        go_ret
        exact ⟨rfl, by (repeat' (first | (with_reducible exact Below.refl _ _) | (with_reducible assumption) | (with_reducible refine Below.alloc ?_ ?_ _) | (with_reducible refine Below.drew ?_) | (with_reducible refine below_drewN ?_ _) | (with_reducible refine Below.setCell ?_ ?_ _) | (with_reducible refine below_after ?_ ?_ _) | (with_reducible refine below_set ?_) | (with_reducible refine After.size_le _ ?_) | (with_reducible refine size_alloc_le ?_) | (with_reducible refine size_set_le ?_) | (with_reducible refine size_drewN_le ?_) | go_size))⟩
      have jd4 : decide (s < to) = false := decide_eq_false j4
      have HM := Lib.hid (HMj.out (by omega) (by omega))
      clear HMj j3 j4
      have hBx2 : Below w.heap.size w x2.w := by (repeat' (first | (with_reducible exact Below.refl _ _) | (with_reducible assumption) | (with_reducible refine Below.alloc ?_ ?_ _) | (with_reducible refine Below.drew ?_) | (with_reducible refine below_drewN ?_ _) | (with_reducible refine Below.setCell ?_ ?_ _) | (with_reducible refine below_after ?_ ?_ _) | (with_reducible refine below_set ?_) | (with_reducible refine After.size_le _ ?_) | (with_reducible refine size_alloc_le ?_) | (with_reducible refine size_set_le ?_) | (with_reducible refine size_drewN_le ?_) | go_size))
      have HCx : Hid (PrCells (x2.w.alloc (.cells #[] 52)) b off ps) := prCells_on hb HC.out (hBx2.alloc hBx2.size _)
      obtain ⟨i0, hi, hz0, hz1, hz2⟩ := info_parts loadInfo
      have hp := Lib.hid hp
      go_wp2_with (at_builtin; refine wpList_append_own _ rfl _ _ 40 rfl x2.w.heap.size 52 i0 (.agg #[.int .i64 0, .int .i64 0]) 2 16 Try.underlying40 hi hz0 hz1 hz2 rfl (by decide) _ 0 [] rfl (World.ownsRow_lit x2.w #[] 0 (Nat.le_refl _) (by unfold maxLen; omega) rfl) ⟨b, off, none⟩ ps.length cap (pcv ps) rfl (pcv_len ps) (pcv_cells HCx.out) (pcv_one ps) (by unfold maxLen; omega) (by omega) (by simp) ?_; intro v' w1 hown' hgrow _; simp only [Nat.zero_add, List.nil_append] at hown'; obtain ⟨g, cap2, rfl, hg1, hg2, hfr, hcg⟩ := prOwn_of hown' (by omega); obtain ⟨q1, q2⟩ := hcg j hj; rw [Nat.zero_add] at q1; have hb2 : Below x2.w.heap.size x2.w w1 := ((Below.refl x2.w.heap.size x2.w).alloc (Nat.le_refl _) (.cells #[] 52)).grown hgrow (by simp) (fun j e => by cases e; exact Nat.le_refl _); obtain ⟨r1, r2⟩ := bcell2 hb2; have n1 : ¬ g = w.heap.size := (by omega); have n2 : ¬ g = x1.w.heap.size := (by omega); have n3 : ¬ g = x1.w.heap.size + 1 := (by omega); have HQ := Lib.hid hcg; have HB2 := Lib.hid hb2; clear hown' hgrow hcg hb2 q2)
      clear r1 r2 q1
      obtain ⟨Y, hY⟩ : ∃ Y, w1.setCell ⟨g, j * 2, none⟩ (.int .i64 to) = Y := ⟨_, rfl⟩
      have hBY : Below x2.w.heap.size x2.w Y := by rw [← hY]; exact HB2.out.setCell hg1 _
      have hgY : g < Y.heap.size := by rw [← hY]; simpa using hg2
      have hcY : PrCells Y g 0 (ps.set j (to, vv)) := by
        have := prCells_set (to := to) HQ.out hj
        rw [HPs.out, hY] at this
        exact this
      have hpY : Prs Y Y.heap.size (.slice (some ⟨g, 0, none⟩) ps.length cap2) (ps.set j (to, vv)) := .inr ⟨g, 0, cap2, by simp, hgY, by simp; omega, hcY⟩
      obtain ⟨cN, cD, dN, dD, pp, qq, hp0, hq0, hS2, hC1, hC2⟩ := HM.out _ Y hpY
      have HS2 := Lib.hid hS2
      have HC1 := Lib.hid hC1
      have HC2 := Lib.hid hC2
      clear hS2 hC1 hC2 hpY hcY HM HQ HB2
      rw [hY]
      clear hY
      obtain ⟨z, rfl⟩ : ∃ z : After x2.w, Y = z.w := ⟨⟨Y, hBY⟩, rfl⟩
      have pd : decide (0 ≤ pp) = true := decide_eq_true hp0
      have qd : decide (qq ≤ 0) = true := decide_eq_true hq0
      clear hBY hgY
      refine calls_after2 (HS2.out _ (Below.refl _ _)) ?_
      intro x4
      have hz_x4 := x4.out.size; (try simp only [World.size_alloc] at hz_x4); (try simp only [World.size_setCell] at hz_x4); (try simp only [World.size_alloc] at hz_x4); have k0_x4 : w.heap.size < x4.w.heap.size := (by omega); have j0_x4 : w.heap.size < x4.w.heap.size + 1 := (by omega); have k1_x4 : x1.w.heap.size < x4.w.heap.size := (by omega); have j1_x4 : x1.w.heap.size < x4.w.heap.size + 1 := (by omega); have k2_x4 : x1.w.heap.size + 1 < x4.w.heap.size := (by omega); have j2_x4 : x1.w.heap.size + 1 < x4.w.heap.size + 1 := (by omega)
      go_wp2_with fail
      refine calls_after (HC1.out _) ?_
      intro x5
      have hz_x5 := x5.out.size; (try simp only [World.size_alloc] at hz_x5); (try simp only [World.size_setCell] at hz_x5); (try simp only [World.size_alloc] at hz_x5); have k0_x5 : w.heap.size < x5.w.heap.size := (by omega); have j0_x5 : w.heap.size < x5.w.heap.size + 1 := (by omega); have k1_x5 : x1.w.heap.size < x5.w.heap.size := (by omega); have j1_x5 : x1.w.heap.size < x5.w.heap.size + 1 := (by omega); have k2_x5 : x1.w.heap.size + 1 < x5.w.heap.size := (by omega); have j2_x5 : x1.w.heap.size + 1 < x5.w.heap.size + 1 := (by omega); have k3_x5 : x4.w.heap.size < x5.w.heap.size := (by omega); have j3_x5 : x4.w.heap.size < x5.w.heap.size + 1 := (by omega); have k4_x5 : x4.w.heap.size + 1 < x5.w.heap.size := (by omega); have j4_x5 : x4.w.heap.size + 1 < x5.w.heap.size + 1 := (by omega)
      go_wp2_with fail
      refine calls_after2 (HC2.out _) ?_
      intro x6
      go_wp2_with fail
      refine calls_after2 (awake_any _) ?_
      intro x7
      go_wp2
      go_ret
      exact ⟨rfl, by (repeat' (first | (with_reducible exact Below.refl _ _) | (with_reducible assumption) | (with_reducible refine Below.alloc ?_ ?_ _) | (with_reducible refine Below.drew ?_) | (with_reducible refine below_drewN ?_ _) | (with_reducible refine Below.setCell ?_ ?_ _) | (with_reducible refine below_after ?_ ?_ _) | (with_reducible refine below_set ?_) | (with_reducible refine After.size_le _ ?_) | (with_reducible refine size_alloc_le ?_) | (with_reducible refine size_set_le ?_) | (with_reducible refine size_drewN_le ?_) | go_size))⟩

theorem ropeLevers_any (s : Int) (v : Value) (ps : List (Int × Int)) (i to : Int) (w : World) (h : Prs w w.heap.size v ps) :
    Calls Try.prog 9 #[.agg #[.int .i64 s, v], .int .i64 i, .int .i64 to] w fun e w' => e = .returned (.bool true) ∧ Below w.heap.size w w' := by
  by_cases hl : ps.length ≤ 20
  · by_cases hG : GoodL s ps
    · exact ropeLevers_ok s v ps i to w h hG
    · exact ropeLevers_bad s v ps i to w h hl hG
  · obtain ⟨a, cap, rfl⟩ := prs_slice h
    exact ropeLevers_long s a _ cap i to w (by omega)
end Go.Proofs.Ytciicijindanlaa
