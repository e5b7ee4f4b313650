/- A stack with a course divided: the reference. -/
import Derived.Test.YtplhbklfaokjbaaDoorSplitp
namespace Go.Proofs.YtplhbklfaokjbaaDoor
open Go.RowKit
attribute [local go_sem] After.cell After.frozen After.lt After.le After.ne After.ne' After.set_eq After.size_set After.lt_add

/-- How many courses there are behind the first i. -/
def cntS (k i : Nat) : Nat := if i ≤ k then i else i + 1
theorem cnt_lt {k i : Nat} (h : i < k) (f : Nat → Nat → Int) (t : Int) : cntS k (i + 1) = cntS k i + 1 ∧ crc (cntS k (i + 1)) (spC f k t) = crc (cntS k i) (spC f k t) ++ c6 (f i) := by
  have e1 : cntS k (i + 1) = i + 1 := if_pos (by omega)
  have e2 : cntS k i = i := if_pos (by omega)
  rw [e1, e2, crc_succ]
  refine ⟨rfl, ?_⟩
  rw [show spC f k t i = f i from if_pos h]
theorem cnt_eq (k : Nat) (f : Nat → Nat → Int) (t : Int) : cntS k (k + 1) = cntS k k + 2 ∧ crc (cntS k (k + 1)) (spC f k t) = crc (cntS k k) (spC f k t) ++ (c6 (loC f k t) ++ c6 (upD f k t)) := by
  have e1 : cntS k (k + 1) = k + 2 := if_neg (by omega)
  have e2 : cntS k k = k := if_pos (by omega)
  rw [e1, e2, crc_succ, crc_succ, List.append_assoc]
  refine ⟨rfl, ?_⟩
  rw [show spC f k t k = loC f k t by unfold spC; rw [if_neg (by omega), if_pos rfl], show spC f k t (k + 1) = upD f k t by unfold spC; rw [if_neg (by omega), if_neg (by omega), if_pos rfl]]
theorem cnt_gt {k i : Nat} (h : k < i) (f : Nat → Nat → Int) (t : Int) : cntS k (i + 1) = cntS k i + 1 ∧ crc (cntS k (i + 1)) (spC f k t) = crc (cntS k i) (spC f k t) ++ c6 (f i) := by
  have e1 : cntS k (i + 1) = i + 2 := if_neg (by omega)
  have e2 : cntS k i = i + 1 := if_neg (by omega)
  rw [e1, e2, crc_succ]
  refine ⟨rfl, ?_⟩
  rw [show spC f k t (i + 1) = f i by unfold spC; rw [if_neg (by omega), if_neg (by omega), if_neg (by omega)]; simp]
theorem cnt_le (k i : Nat) : cntS k i ≤ i + 1 := by unfold cntS; split <;> omega

set_option maxRecDepth 100000 in
set_option maxHeartbeats 4000000 in
theorem rsplit_ok (b off cap n : Nat) (f : Nat → Nat → Int) (k : Nat) (t : Int) (w : World) (hb : b < w.heap.size) (hn : n < 60) (hc : CrCells w b off n f) (hk : k < n) (hO : OkC f k) (h1 : 1 ≤ t) (h2 : t ≤ f k 0 - 1) (h0 : loW f k t ≠ 0)
    (ha : RCSay w (.slice (some ⟨b, off, none⟩) n cap) true) :
    Calls Tryd.prog 48 #[.slice (some ⟨b, off, none⟩) n cap, .int .i64 k, .int .i64 t] w fun x w' => ∃ v, x = .returned (.tuple #[v, .int .i64 0]) ∧ CrOwn w' w.heap.size v (n + 1) (spC f k t) ∧ Below w.heap.size w w' := by
  obtain ⟨i0, hi, hz0, hz1, hz2⟩ := info_parts crInfo
  have HA : Hid (∀ W, Below w.heap.size w W → _) := ha
  have HC := Lib.hid (fun W (hW : Below w.heap.size w W) => hc.on hb hW)
  have HB1 := Lib.hid (within_any (k : Nat) 0 ((n : Int) - 1))
  rw [decide_eq_true (by unfold Btw; omega)] at HB1
  have HB2 := Lib.hid (within_any t 1 (f k 0 - 1))
  rw [decide_eq_true (by unfold Btw; omega)] at HB2
  obtain ⟨g1, g2, g3, g4⟩ := loW_bd hO h1 h2
  obtain ⟨L, hL⟩ : ∃ L, f k 3 * t / f k 0 = L := ⟨_, rfl⟩
  rw [show loW f k t = L from hL] at g1 g2 h0
  have L0 : (L == 0) = false := by simpa using h0
  have L1 : (f k 3 - L == 0) = false := by rw [beq_eq_false_iff_ne]; omega
  have n60 : ((n : Int) == 60) = false := by rw [beq_eq_false_iff_ne]; omega
  have hO' := hO
  unfold OkC InCr at hO'
  obtain ⟨c0, c1, c2, c3, c4, c5⟩ := hc k hk
  have hk' : (k : Int) < (n : Int) := by omega
  clear ha hc
  go_enter Tryd.func48, Tryd.ntmps48
  (go_wp2_with fail); refine calls_after (HA.out _ (by (repeat' (first | (with_reducible exact Below.refl _ _) | (with_reducible assumption) | (with_reducible refine Below.alloc ?_ ?_ _) | (with_reducible refine Below.drew ?_) | (with_reducible refine below_drewN ?_ _) | (with_reducible refine Below.setCell ?_ ?_ _) | (with_reducible refine below_after ?_ ?_ _) | (with_reducible refine below_set ?_) | (with_reducible refine After.size_le _ ?_) | (with_reducible refine size_alloc_le ?_) | (with_reducible refine size_set_le ?_) | (with_reducible refine size_drewN_le ?_) | go_size)))) ?_; intro x1; have hz_x1 := x1.out.size; (try simp only [World.size_alloc] at hz_x1); (try simp only [World.size_setCell] at hz_x1); (try simp only [World.size_alloc] at hz_x1); have k0_x1 : b < x1.w.heap.size := (by omega); have j0_x1 : b < x1.w.heap.size + 1 := (by omega)
  (go_wp2_with fail); refine calls_after2 (HB1.out _) ?_; intro x2; have hz_x2 := x2.out.size; (try simp only [World.size_alloc] at hz_x2); (try simp only [World.size_setCell] at hz_x2); (try simp only [World.size_alloc] at hz_x2); have k0_x2 : b < x2.w.heap.size := (by omega); have j0_x2 : b < x2.w.heap.size + 1 := (by omega)
  (go_wp2_with fail); refine calls_after2 (HB2.out _) ?_; intro x3; have hz_x3 := x3.out.size; (try simp only [World.size_alloc] at hz_x3); (try simp only [World.size_setCell] at hz_x3); (try simp only [World.size_alloc] at hz_x3); have k0_x3 : b < x3.w.heap.size := (by omega); have j0_x3 : b < x3.w.heap.size + 1 := (by omega)
  go_upto_region 5 with (fail)
  go_cut [8, 9] (fun s u wx => ∃ bl bu, s = .pointer (some ⟨bl, 0, none⟩) ∧ u = .pointer (some ⟨bu, 0, none⟩) ∧ TwoB w wx bl bu (f k) (f k))
  case first =>
    clear g1 g2 g3 g4 h0 h1 h2 HA HC HB1 HB2
    go_region
    all_goals
      go_wp2
      go_meet
      case rel => exact ⟨_, _, rfl, rfl, by first | omega | (simp; omega), by first | omega | (simp; omega), by first | omega | (simp; done) | (simp; omega),
        fill1 (by first | (simp; done) | (simp; omega)) (by intro o; simp [go_sem]) (by simp [go_sem]) (by simp [go_sem]) (by simp [go_sem]) (by simp [go_sem]) (by simp [go_sem]) (by simp [go_sem]),
        fill1 (by first | (simp; done) | (simp; omega)) (by intro o; simp [go_sem]) (by simp [go_sem]) (by simp [go_sem]) (by simp [go_sem]) (by simp [go_sem]) (by simp [go_sem]) (by simp [go_sem]), by (repeat' (first | (with_reducible exact Below.refl _ _) | (with_reducible assumption) | (with_reducible refine Below.alloc ?_ ?_ _) | (with_reducible refine Below.drew ?_) | (with_reducible refine below_drewN ?_ _) | (with_reducible refine Below.setCell ?_ ?_ _) | (with_reducible refine below_after ?_ ?_ _) | (with_reducible refine below_set ?_) | (with_reducible refine After.size_le _ ?_) | (with_reducible refine size_alloc_le ?_) | (with_reducible refine size_set_le ?_) | (with_reducible refine size_drewN_le ?_) | go_size))⟩
  case rest =>
    obtain ⟨bl, bu, rfl, rfl, q1, q2, q3, q4, q5, q6⟩ := hcut
    have q4l := q4.lt
    have q5l := q5.lt
    obtain ⟨r0, r1, r2, r3, r4, r5⟩ := q4.six
    obtain ⟨s0, s1, s2, s3, s4, s5⟩ := q5.six
    have fl := q4.free
    have fu := q5.free
    have q3' := Ne.symm q3
    have Q4 := Lib.hid q4
    have Q5 := Lib.hid q5
    have Q6 := Lib.hid q6
    clear q4 q5 q6
    go_wp2_with fail
    go_region
    go_wp2_with fail
    go_region
    go_wp2_with fail
    obtain ⟨V, hV⟩ : ∃ V, ((((wc.setCell ⟨bl, 0, none⟩ (.int .i64 t)).setCell ⟨bl, 3, none⟩ (.int .i64 L)).setCell ⟨bu, 0, none⟩ (.int .i64 (f k 0 - t))).setCell ⟨bu, 3, none⟩ (.int .i64 (f k 3 - L))).drew.drew = V := ⟨_, rfl⟩
    have V4 : FillC V bl 1 (fun _ => loC f k t) := by
      rw [← hV]
      refine FillC.below ?_ (((Below.refl _ _).drew).drew)
      exact (((Q4.out.set t (k := 0) (j := 0) (by omega) (by omega)).set L (k := 0) (j := 3) (by omega) (by omega)).off q3 _).off q3 _ |>.congr fun i j hi hj => by
        obtain rfl : i = 0 := by omega
        rcases (show j = 0 ∨ j = 1 ∨ j = 2 ∨ j = 3 ∨ j = 4 ∨ j = 5 by omega) with rfl | rfl | rfl | rfl | rfl | rfl <;> simp [upC, loC, loW, hL]
    have V5 : FillC V bu 1 (fun _ => upD f k t) := by
      rw [← hV]
      refine FillC.below ?_ (((Below.refl _ _).drew).drew)
      exact ((((Q5.out.off q3' _).off q3' _).set (f k 0 - t) (k := 0) (j := 0) (by omega) (by omega)).set (f k 3 - L) (k := 0) (j := 3) (by omega) (by omega)).congr fun i j hi hj => by
        obtain rfl : i = 0 := by omega
        rcases (show j = 0 ∨ j = 1 ∨ j = 2 ∨ j = 3 ∨ j = 4 ∨ j = 5 by omega) with rfl | rfl | rfl | rfl | rfl | rfl <;> simp [upC, upD, loW, hL]
    have V6 : Below w.heap.size w V := by
      rw [← hV]
      exact (((((Q6.out.setCell (p := ⟨bl, _, none⟩) q1 _).setCell (p := ⟨bl, _, none⟩) q1 _).setCell (p := ⟨bu, _, none⟩) q2 _).setCell (p := ⟨bu, _, none⟩) q2 _).drew).drew
    rw [hV]
    have vl := V4.lt
    have vu := V5.lt
    obtain ⟨y0, y1, y2, y3, y4, y5⟩ := V4.six
    obtain ⟨z0, z1, z2, z3, z4, z5⟩ := V5.six
    have hbV : b < V.heap.size := Nat.lt_of_lt_of_le hb V6.size
    clear hV r0 r1 r2 r3 r4 r5 s0 s1 s2 s3 s4 s5 Q4 Q5 Q6 fl fu q4l q5l
    have hcV := HC.out V V6
    have V6' := Lib.hid V6
    have HCV := Lib.hid hcV
    clear hcV HC V4 V5 V6 hL
    go_loopw [10, 11] (fun v i wr => ∃ m : Nat, m ≤ n ∧ i = .int .i64 m ∧ ∃ x : After V, wr = x.w ∧ x.w.ownsRow V.heap.size 51 6 v (cntS k m) (crc (cntS k m) (spC f k t))) (fun _ i _ => n - (intOf i).toNat)
    case atStart => exact ⟨0, by omega, rfl, ⟨V, Below.refl _ _⟩, rfl, by rw [show cntS k 0 = 0 from if_pos (by omega)]; exact World.ownsRow_nil _ _ _ _⟩
    case round =>
      obtain ⟨i, hin, rfl, x, rfl, hown⟩ := hrel
      have hsx := x.out.size
      by_cases hlt : i < n
      · obtain ⟨d0, d1, d2, d3, d4, d5⟩ := HCV.out i hlt
        have hi' : (i : Int) < (n : Int) := by omega
        rcases Nat.lt_trichotomy i k with h | h | h
        · have e0 : ((i : Int) == (k : Int)) = false := by rw [beq_eq_false_iff_ne]; omega
          have q1 := Lib.hid (cnt_lt h f t)
          have q2 := cnt_le k i
          go_wp2_with (at_builtin; refine wpList_append_own _ rfl _ _ 22 rfl V.heap.size 51 i0 (.agg #[.int .i64 0, .int .i64 0, .int .i64 0, .int .i64 0, .int .i64 0, .int .i64 0]) 6 48 Tryd.underlying22 hi hz0 hz1 hz2 rfl (by decide) _ _ _ rfl (hown.alloc _) ⟨x.w.heap.size, 0, none⟩ 1 1 [.int .i64 (f i 0), .int .i64 (f i 1), .int .i64 (f i 2), .int .i64 (f i 3), .int .i64 (f i 4), .int .i64 (f i 5)] rfl rfl (World.news_of_block (cs := #[.int .i64 (f i 0), .int .i64 (f i 1), .int .i64 (f i 2), .int .i64 (f i 3), .int .i64 (f i 4), .int .i64 (f i 5)]) (t := 51) (fr := (0, 0)) (heap_alloc_new x.w _)) (by simp [Value.oneCell']) (by unfold maxLen; omega) (by omega) (by simp; omega) ?_; intro v' w1 hown' hgrow _)
          go_roundw
          case rel => exact ⟨i + 1, by omega, by go_num, ⟨w1, (x.out.alloc hsx _).grown hgrow (by simp; omega) (fun j e => (hown.lt j e).1)⟩, rfl, by rw [q1.out.2, q1.out.1]; exact hown'⟩
          case measure => simp [intOf]; omega
        · subst h
          have e0 : ((i : Int) == (i : Int)) = true := beq_self_eq_true _
          have q1 := Lib.hid (cnt_eq i f t)
          have q2 := cnt_le i i
          go_wp2_with (at_builtin; refine wpList_append_own _ rfl _ _ 22 rfl V.heap.size 51 i0 (.agg #[.int .i64 0, .int .i64 0, .int .i64 0, .int .i64 0, .int .i64 0, .int .i64 0]) 6 48 Tryd.underlying22 hi hz0 hz1 hz2 rfl (by decide) _ _ _ rfl (hown.alloc _) ⟨x.w.heap.size, 0, none⟩ 2 2 [.int .i64 (loC f i t 0), .int .i64 (loC f i t 1), .int .i64 (loC f i t 2), .int .i64 (loC f i t 3), .int .i64 (loC f i t 4), .int .i64 (loC f i t 5), .int .i64 (upD f i t 0), .int .i64 (upD f i t 1), .int .i64 (upD f i t 2), .int .i64 (upD f i t 3), .int .i64 (upD f i t 4), .int .i64 (upD f i t 5)] rfl rfl (World.news_of_block (cs := #[.int .i64 (loC f i t 0), .int .i64 (loC f i t 1), .int .i64 (loC f i t 2), .int .i64 (loC f i t 3), .int .i64 (loC f i t 4), .int .i64 (loC f i t 5), .int .i64 (upD f i t 0), .int .i64 (upD f i t 1), .int .i64 (upD f i t 2), .int .i64 (upD f i t 3), .int .i64 (upD f i t 4), .int .i64 (upD f i t 5)]) (t := 51) (fr := (0, 0)) (heap_alloc_new x.w _)) (by simp [Value.oneCell']) (by unfold maxLen; omega) (by omega) (by simp; omega) ?_; intro v' w1 hown' hgrow _)
          go_roundw
          case rel => exact ⟨i + 1, by omega, by go_num, ⟨w1, (x.out.alloc hsx _).grown hgrow (by simp; omega) (fun j e => (hown.lt j e).1)⟩, rfl, by rw [q1.out.2, q1.out.1]; exact hown'⟩
          case measure => simp [intOf]; omega
        · have e0 : ((i : Int) == (k : Int)) = false := by rw [beq_eq_false_iff_ne]; omega
          have q1 := Lib.hid (cnt_gt h f t)
          have q2 := cnt_le k i
          go_wp2_with (at_builtin; refine wpList_append_own _ rfl _ _ 22 rfl V.heap.size 51 i0 (.agg #[.int .i64 0, .int .i64 0, .int .i64 0, .int .i64 0, .int .i64 0, .int .i64 0]) 6 48 Tryd.underlying22 hi hz0 hz1 hz2 rfl (by decide) _ _ _ rfl (hown.alloc _) ⟨x.w.heap.size, 0, none⟩ 1 1 [.int .i64 (f i 0), .int .i64 (f i 1), .int .i64 (f i 2), .int .i64 (f i 3), .int .i64 (f i 4), .int .i64 (f i 5)] rfl rfl (World.news_of_block (cs := #[.int .i64 (f i 0), .int .i64 (f i 1), .int .i64 (f i 2), .int .i64 (f i 3), .int .i64 (f i 4), .int .i64 (f i 5)]) (t := 51) (fr := (0, 0)) (heap_alloc_new x.w _)) (by simp [Value.oneCell']) (by unfold maxLen; omega) (by omega) (by simp; omega) ?_; intro v' w1 hown' hgrow _)
          go_roundw
          case rel => exact ⟨i + 1, by omega, by go_num, ⟨w1, (x.out.alloc hsx _).grown hgrow (by simp; omega) (fun j e => (hown.lt j e).1)⟩, rfl, by rw [q1.out.2, q1.out.1]; exact hown'⟩
          case measure => simp [intOf]; omega
      · obtain rfl : n = i := by omega
        have HO := Lib.hid hown
        clear hown
        have en : cntS k n = n + 1 := if_neg (by omega)
        have EN := Lib.hid en
        clear en
        go_wp2
        go_returns
        have h5 := HO.out
        rw [EN.out] at h5
        exact ⟨_, rfl, (crOwn_of h5 (by omega)).base V6'.out.size, V6'.out.trans (x.out.mono V6'.out.size)⟩
end Go.Proofs.YtplhbklfaokjbaaDoor
