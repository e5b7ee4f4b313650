/- The nearest line and its greatest distance, as the reference answers. -/
import Derived.Test.YtdhobjflfhijjaaRnarrow
import Derived.Test.YtdhobjflfhijjaaBendc
import Derived.Test.YtdhobjflfhijjaaRworstb
namespace Go.Proofs.Ytdhobjflfhijjaa
open Go.RowKit
attribute [local go_sem] After.cell After.frozen After.lt After.le After.ne After.ne' After.set_eq After.size_set After.lt_add

theorem ne_single {ps : List (Int × Int)} (hG : GoodPts ps) (h : ps.length = 1) : neA ps = (ps.getD 0 (0, 0)).2 ∧ neB ps = 0 ∧ neD ps = 1 := by
  obtain ⟨e1, e2, e3, _⟩ := ne_mk hG
  have i := nl_in hG
  have a : nlA ps = (ps.getD 0 (0, 0)).2 := by simp [nlA, h, ptAt]
  have b : nlB ps = 0 := by simp [nlB, h]
  have d : nlD ps = 1 := by simp [nlD, h]
  rw [a, b, d] at e1 e2 e3 i
  rw [e1, e2, e3]
  unfold mkA mkB mkD
  rw [if_pos i, if_pos i, if_pos i]
  simp [gcd3]

set_option maxRecDepth 100000 in
set_option maxHeartbeats 400000 in
theorem rnear_one (b off cap : Nat) (ps : List (Int × Int)) (w : World) (hb : b < w.heap.size)
    (hc : ∀ i, i < ps.length → w.cell? ⟨b, off + i * 2, none⟩ = some (.int .i64 (ps.getD i (0, 0)).1) ∧ w.cell? ⟨b, off + i * 2 + 1, none⟩ = some (.int .i64 (ps.getD i (0, 0)).2))
    (hG : GoodPts ps) (h1 : ps.length = 1) :
    Calls Try.prog 85 #[.slice (some ⟨b, off, none⟩) ps.length cap] w fun e w' => e = .returned (.agg #[.int .i64 (neA ps), .int .i64 (neB ps), .int .i64 (neD ps)]) ∧ Below w.heap.size w w' := by
  obtain ⟨e1, e2, e3⟩ := ne_single hG h1
  obtain ⟨c1, c2⟩ := hc 0 (by omega)
  rw [e1, e2, e3, h1]
  clear e1 e2 e3 hc hG h1
  generalize ps.getD 0 (0, 0) = p at *
  obtain ⟨p1, p2⟩ := p
  dsimp only at *
  simp only [Nat.zero_mul, Nat.add_zero] at c1 c2
  have hb1 : b < w.heap.size + 1 := by omega
  have hb2 : b < w.heap.size + 2 := by omega
  go_enter Try.func85, Try.ntmps85
  go_wp2_with fail
  go_returns
  exact ⟨rfl, by (repeat' (first | (with_reducible exact Below.refl _ _) | (with_reducible assumption) | (with_reducible refine Below.alloc ?_ ?_ _) | (with_reducible refine Below.drew ?_) | (with_reducible refine below_drewN ?_ _) | (with_reducible refine Below.setCell ?_ ?_ _) | (with_reducible refine below_after ?_ ?_ _) | (with_reducible refine below_set ?_) | (with_reducible refine After.size_le _ ?_) | (with_reducible refine size_alloc_le ?_) | (with_reducible refine size_set_le ?_) | (with_reducible refine size_drewN_le ?_) | go_size))⟩

set_option maxRecDepth 100000 in
set_option maxHeartbeats 1000000 in
theorem rnear_two (b off cap : Nat) (ps : List (Int × Int)) (w : World) (hb : b < w.heap.size)
    (hc : ∀ i, i < ps.length → w.cell? ⟨b, off + i * 2, none⟩ = some (.int .i64 (ps.getD i (0, 0)).1) ∧ w.cell? ⟨b, off + i * 2 + 1, none⟩ = some (.int .i64 (ps.getD i (0, 0)).2))
    (hG : GoodPts ps) (h2 : 2 ≤ ps.length) :
    Calls Try.prog 85 #[.slice (some ⟨b, off, none⟩) ps.length cap] w fun e w' => e = .returned (.agg #[.int .i64 (neA ps), .int .i64 (neB ps), .int .i64 (neD ps)]) ∧ Below w.heap.size w w' := by
  have l1 : ((ps.length : Int) == 1) = false := beq_eq_false_iff_ne.2 (by omega)
  have HN : Hid (∀ W, Below w.heap.size w W → _) := fun W hW => rnarrow_any b off cap ps W (Nat.lt_of_lt_of_le hb hW.size) (cells_on hb hc hW) hG h2
  have HM := Lib.hid (near_one hG h2 (pr_in hG h2))
  have HE : Hid (mkE (prLo ps (bestPr ps) + prHi ps (bestPr ps)) (2 * prB ps (bestPr ps)) (2 * prD ps (bestPr ps)) = 0) := Lib.hid (by simp [mkE, pr_in hG h2])
  obtain ⟨⟨v1, v2⟩, v3, v4⟩ := pr_val hG (bestPr_mem h2)
  obtain ⟨⟨u1, u2⟩, u3, u4⟩ := pr_bd hG (bestPr_mem h2)
  clear hc hG h2
  generalize neA ps = A at *
  generalize neB ps = B at *
  generalize neD ps = D at *
  generalize prB ps (bestPr ps) = BB at *
  generalize prD ps (bestPr ps) = DD at *
  generalize prLo ps (bestPr ps) = LO at *
  generalize prHi ps (bestPr ps) = HI at *
  have HK : Hid (∀ W, Calls Try.prog 27 #[.int .i64 (LO + HI), .int .i64 (2 * BB), .int .i64 (2 * DD)] W fun e w' => e = .returned (.tuple #[.agg #[.int .i64 A, .int .i64 B, .int .i64 D], .int .i64 0]) ∧ Below W.heap.size W w') := fun W => by
    have := rmake_any (LO + HI) (2 * BB) (2 * DD) W
    rw [HE.out, HM.out.1, HM.out.2.1, HM.out.2.2] at this
    exact this
  clear HM HE
  go_enter Try.func85, Try.ntmps85
  (go_wp2_with fail); refine calls_after (HN.out _ (by (repeat' (first | (with_reducible exact Below.refl _ _) | (with_reducible assumption) | (with_reducible refine Below.alloc ?_ ?_ _) | (with_reducible refine Below.drew ?_) | (with_reducible refine below_drewN ?_ _) | (with_reducible refine Below.setCell ?_ ?_ _) | (with_reducible refine below_after ?_ ?_ _) | (with_reducible refine below_set ?_) | (with_reducible refine After.size_le _ ?_) | (with_reducible refine size_alloc_le ?_) | (with_reducible refine size_set_le ?_) | (with_reducible refine size_drewN_le ?_) | go_size)))) ?_; intro x1; have hz_x1 := x1.out.size; (try simp only [World.size_alloc] at hz_x1); (try simp only [World.size_setCell] at hz_x1); have k0_x1 : w.heap.size < x1.w.heap.size := (by omega); have j0_x1 : w.heap.size < x1.w.heap.size + 1 := (by omega); have k1_x1 : b < x1.w.heap.size := (by omega); have j1_x1 : b < x1.w.heap.size + 1 := (by omega)
  (go_wp2_with fail); refine calls_after (HK.out _) ?_; intro x2; have hz_x2 := x2.out.size; (try simp only [World.size_alloc] at hz_x2); (try simp only [World.size_setCell] at hz_x2); have k0_x2 : w.heap.size < x2.w.heap.size := (by omega); have j0_x2 : w.heap.size < x2.w.heap.size + 1 := (by omega); have k1_x2 : x1.w.heap.size < x2.w.heap.size := (by omega); have j1_x2 : x1.w.heap.size < x2.w.heap.size + 1 := (by omega)
  go_wp2_with fail
  have q (o : Nat) (v : Value) (hv : (w.alloc (.cells #[.int .i64 0, .int .i64 0, .int .i64 0] 35)).cell? ⟨w.heap.size, o, none⟩ = some v) : x2.w.cell? ⟨w.heap.size, o, none⟩ = some v := (x2.cell _ (by simpa using j0_x1)).trans (keep_alloc ((x1.cell _ (by simp)).trans hv))
  have r0 := q 0 (.int .i64 0) (by simp [go_sem])
  have r1 := q 1 (.int .i64 0) (by simp [go_sem])
  have r2 := q 2 (.int .i64 0) (by simp [go_sem])
  obtain ⟨w0, w1, w2⟩ := x2.set3 (.int .i64 A) (.int .i64 B) (.int .i64 D) r0 r1 r2
  refine bodyPost_ret (v := .agg #[.int .i64 A, .int .i64 B, .int .i64 D]) (by simp [results, Try.results85, go_sem, keep_alloc w0, keep_alloc w1, keep_alloc w2]) rfl ⟨rfl, ?_⟩
  (repeat' (first | (with_reducible exact Below.refl _ _) | (with_reducible assumption) | (with_reducible refine Below.alloc ?_ ?_ _) | (with_reducible refine Below.drew ?_) | (with_reducible refine below_drewN ?_ _) | (with_reducible refine Below.setCell ?_ ?_ _) | (with_reducible refine below_after ?_ ?_ _) | (with_reducible refine below_set ?_) | (with_reducible refine After.size_le _ ?_) | (with_reducible refine size_alloc_le ?_) | (with_reducible refine size_set_le ?_) | (with_reducible refine size_drewN_le ?_) | go_size))
theorem rnear_ok (b off cap : Nat) (ps : List (Int × Int)) (w : World) (hb : b < w.heap.size)
    (hc : ∀ i, i < ps.length → w.cell? ⟨b, off + i * 2, none⟩ = some (.int .i64 (ps.getD i (0, 0)).1) ∧ w.cell? ⟨b, off + i * 2 + 1, none⟩ = some (.int .i64 (ps.getD i (0, 0)).2))
    (hG : GoodPts ps) :
    Calls Try.prog 85 #[.slice (some ⟨b, off, none⟩) ps.length cap] w fun e w' => e = .returned (.agg #[.int .i64 (neA ps), .int .i64 (neB ps), .int .i64 (neD ps)]) ∧ Below w.heap.size w w' := by
  rcases (show ps.length = 1 ∨ 2 ≤ ps.length by have := hG.1; omega) with h | h
  · exact rnear_one b off cap ps w hb hc hG h
  · exact rnear_two b off cap ps w hb hc hG h

set_option maxRecDepth 100000 in
set_option maxHeartbeats 400000 in
theorem rnearest_bad (v : Value) (w : World) (hv : RptsSay w v false) :
    Calls Try.prog 41 #[v] w fun e w' => e = .returned (.tuple #[.agg #[.int .i64 0, .int .i64 0, .int .i64 0], .int .i64 1]) ∧ Below w.heap.size w w' := by
  have HV : Hid (∀ W, Below w.heap.size w W → _) := hv
  clear hv
  go_enter Try.func41, Try.ntmps41
  (go_wp2_with fail); refine calls_after (HV.out _ (by (repeat' (first | (with_reducible exact Below.refl _ _) | (with_reducible assumption) | (with_reducible refine Below.alloc ?_ ?_ _) | (with_reducible refine Below.drew ?_) | (with_reducible refine below_drewN ?_ _) | (with_reducible refine Below.setCell ?_ ?_ _) | (with_reducible refine below_after ?_ ?_ _) | (with_reducible refine below_set ?_) | (with_reducible refine After.size_le _ ?_) | (with_reducible refine size_alloc_le ?_) | (with_reducible refine size_set_le ?_) | (with_reducible refine size_drewN_le ?_) | go_size)))) ?_; intro x1
  go_wp2_with fail
  go_returns
  exact ⟨rfl, by (repeat' (first | (with_reducible exact Below.refl _ _) | (with_reducible assumption) | (with_reducible refine Below.alloc ?_ ?_ _) | (with_reducible refine Below.drew ?_) | (with_reducible refine below_drewN ?_ _) | (with_reducible refine Below.setCell ?_ ?_ _) | (with_reducible refine below_after ?_ ?_ _) | (with_reducible refine below_set ?_) | (with_reducible refine After.size_le _ ?_) | (with_reducible refine size_alloc_le ?_) | (with_reducible refine size_set_le ?_) | (with_reducible refine size_drewN_le ?_) | go_size))⟩
set_option maxRecDepth 100000 in
set_option maxHeartbeats 400000 in
theorem rbend_bad (v : Value) (w : World) (hv : RptsSay w v false) :
    Calls Try.prog 43 #[v] w fun e w' => e = .returned (.tuple #[.agg #[.int .i64 0, .int .i64 0], .int .i64 1]) ∧ Below w.heap.size w w' := by
  have HV : Hid (∀ W, Below w.heap.size w W → _) := hv
  clear hv
  go_enter Try.func43, Try.ntmps43
  (go_wp2_with fail); refine calls_after (HV.out _ (by (repeat' (first | (with_reducible exact Below.refl _ _) | (with_reducible assumption) | (with_reducible refine Below.alloc ?_ ?_ _) | (with_reducible refine Below.drew ?_) | (with_reducible refine below_drewN ?_ _) | (with_reducible refine Below.setCell ?_ ?_ _) | (with_reducible refine below_after ?_ ?_ _) | (with_reducible refine below_set ?_) | (with_reducible refine After.size_le _ ?_) | (with_reducible refine size_alloc_le ?_) | (with_reducible refine size_set_le ?_) | (with_reducible refine size_drewN_le ?_) | go_size)))) ?_; intro x1
  go_wp2_with fail
  go_returns
  exact ⟨rfl, by (repeat' (first | (with_reducible exact Below.refl _ _) | (with_reducible assumption) | (with_reducible refine Below.alloc ?_ ?_ _) | (with_reducible refine Below.drew ?_) | (with_reducible refine below_drewN ?_ _) | (with_reducible refine Below.setCell ?_ ?_ _) | (with_reducible refine below_after ?_ ?_ _) | (with_reducible refine below_set ?_) | (with_reducible refine After.size_le _ ?_) | (with_reducible refine size_alloc_le ?_) | (with_reducible refine size_set_le ?_) | (with_reducible refine size_drewN_le ?_) | go_size))⟩

set_option maxRecDepth 100000 in
set_option maxHeartbeats 400000 in
theorem rnearest_ok (b off cap : Nat) (ps : List (Int × Int)) (w : World) (hb : b < w.heap.size)
    (hc : ∀ i, i < ps.length → w.cell? ⟨b, off + i * 2, none⟩ = some (.int .i64 (ps.getD i (0, 0)).1) ∧ w.cell? ⟨b, off + i * 2 + 1, none⟩ = some (.int .i64 (ps.getD i (0, 0)).2))
    (hG : GoodPts ps) :
    Calls Try.prog 41 #[.slice (some ⟨b, off, none⟩) ps.length cap] w fun e w' => e = .returned (.tuple #[.agg #[.int .i64 (neA ps), .int .i64 (neB ps), .int .i64 (neD ps)], .int .i64 0]) ∧ Below w.heap.size w w' := by
  have hl40 := hG.2.1
  have HV : Hid (∀ W, Below w.heap.size w W → _) := fun W hW => rvalidPoints_t b off cap ps W (Nat.lt_of_lt_of_le hb hW.size) (by omega) (cells_on hb hc hW) hG
  have HN : Hid (∀ W, Below w.heap.size w W → _) := fun W hW => rnear_ok b off cap ps W (Nat.lt_of_lt_of_le hb hW.size) (cells_on hb hc hW) hG
  clear hc hG
  generalize neA ps = A at *
  generalize neB ps = B at *
  generalize neD ps = D at *
  go_enter Try.func41, Try.ntmps41
  (go_wp2_with fail); refine calls_after (HV.out _ (by (repeat' (first | (with_reducible exact Below.refl _ _) | (with_reducible assumption) | (with_reducible refine Below.alloc ?_ ?_ _) | (with_reducible refine Below.drew ?_) | (with_reducible refine below_drewN ?_ _) | (with_reducible refine Below.setCell ?_ ?_ _) | (with_reducible refine below_after ?_ ?_ _) | (with_reducible refine below_set ?_) | (with_reducible refine After.size_le _ ?_) | (with_reducible refine size_alloc_le ?_) | (with_reducible refine size_set_le ?_) | (with_reducible refine size_drewN_le ?_) | go_size)))) ?_; intro x1; have hz_x1 := x1.out.size; (try simp only [World.size_alloc] at hz_x1); (try simp only [World.size_setCell] at hz_x1); have k0_x1 : w.heap.size < x1.w.heap.size := (by omega); have j0_x1 : w.heap.size < x1.w.heap.size + 1 := (by omega); have k1_x1 : b < x1.w.heap.size := (by omega); have j1_x1 : b < x1.w.heap.size + 1 := (by omega)
  (go_wp2_with fail); refine calls_after (HN.out _ (by (repeat' (first | (with_reducible exact Below.refl _ _) | (with_reducible assumption) | (with_reducible refine Below.alloc ?_ ?_ _) | (with_reducible refine Below.drew ?_) | (with_reducible refine below_drewN ?_ _) | (with_reducible refine Below.setCell ?_ ?_ _) | (with_reducible refine below_after ?_ ?_ _) | (with_reducible refine below_set ?_) | (with_reducible refine After.size_le _ ?_) | (with_reducible refine size_alloc_le ?_) | (with_reducible refine size_set_le ?_) | (with_reducible refine size_drewN_le ?_) | go_size)))) ?_; intro x2; have hz_x2 := x2.out.size; (try simp only [World.size_alloc] at hz_x2); (try simp only [World.size_setCell] at hz_x2); have k0_x2 : w.heap.size < x2.w.heap.size := (by omega); have j0_x2 : w.heap.size < x2.w.heap.size + 1 := (by omega)
  go_wp2_with fail
  go_returns
  exact ⟨rfl, by (repeat' (first | (with_reducible exact Below.refl _ _) | (with_reducible assumption) | (with_reducible refine Below.alloc ?_ ?_ _) | (with_reducible refine Below.drew ?_) | (with_reducible refine below_drewN ?_ _) | (with_reducible refine Below.setCell ?_ ?_ _) | (with_reducible refine below_after ?_ ?_ _) | (with_reducible refine below_set ?_) | (with_reducible refine After.size_le _ ?_) | (with_reducible refine size_alloc_le ?_) | (with_reducible refine size_set_le ?_) | (with_reducible refine size_drewN_le ?_) | go_size))⟩

set_option maxRecDepth 100000 in
set_option maxHeartbeats 400000 in
theorem rbend_one (b off cap : Nat) (ps : List (Int × Int)) (w : World) (hb : b < w.heap.size)
    (hc : ∀ i, i < ps.length → w.cell? ⟨b, off + i * 2, none⟩ = some (.int .i64 (ps.getD i (0, 0)).1) ∧ w.cell? ⟨b, off + i * 2 + 1, none⟩ = some (.int .i64 (ps.getD i (0, 0)).2))
    (hG : GoodPts ps) (h1 : ps.length = 1) :
    Calls Try.prog 43 #[.slice (some ⟨b, off, none⟩) ps.length cap] w fun e w' => e = .returned (.tuple #[.agg #[.int .i64 0, .int .i64 1], .int .i64 0]) ∧ Below w.heap.size w w' := by
  have HV : Hid (∀ W, Below w.heap.size w W → _) := fun W hW => rvalidPoints_t b off cap ps W (Nat.lt_of_lt_of_le hb hW.size) (by omega) (cells_on hb hc hW) hG
  clear hc hG
  rw [h1] at HV
  rw [h1]
  clear h1
  go_enter Try.func43, Try.ntmps43
  (go_wp2_with fail); refine calls_after (HV.out _ (by (repeat' (first | (with_reducible exact Below.refl _ _) | (with_reducible assumption) | (with_reducible refine Below.alloc ?_ ?_ _) | (with_reducible refine Below.drew ?_) | (with_reducible refine below_drewN ?_ _) | (with_reducible refine Below.setCell ?_ ?_ _) | (with_reducible refine below_after ?_ ?_ _) | (with_reducible refine below_set ?_) | (with_reducible refine After.size_le _ ?_) | (with_reducible refine size_alloc_le ?_) | (with_reducible refine size_set_le ?_) | (with_reducible refine size_drewN_le ?_) | go_size)))) ?_; intro x1; have hz_x1 := x1.out.size; (try simp only [World.size_alloc] at hz_x1); (try simp only [World.size_setCell] at hz_x1); have k0_x1 : w.heap.size < x1.w.heap.size := (by omega); have j0_x1 : w.heap.size < x1.w.heap.size + 1 := (by omega); have k1_x1 : b < x1.w.heap.size := (by omega); have j1_x1 : b < x1.w.heap.size + 1 := (by omega)
  go_wp2_with fail
  go_returns
  exact ⟨rfl, by (repeat' (first | (with_reducible exact Below.refl _ _) | (with_reducible assumption) | (with_reducible refine Below.alloc ?_ ?_ _) | (with_reducible refine Below.drew ?_) | (with_reducible refine below_drewN ?_ _) | (with_reducible refine Below.setCell ?_ ?_ _) | (with_reducible refine below_after ?_ ?_ _) | (with_reducible refine below_set ?_) | (with_reducible refine After.size_le _ ?_) | (with_reducible refine size_alloc_le ?_) | (with_reducible refine size_set_le ?_) | (with_reducible refine size_drewN_le ?_) | go_size))⟩

set_option maxRecDepth 100000 in
set_option maxHeartbeats 1000000 in
theorem rbend_two (b off cap : Nat) (ps : List (Int × Int)) (w : World) (hb : b < w.heap.size)
    (hc : ∀ i, i < ps.length → w.cell? ⟨b, off + i * 2, none⟩ = some (.int .i64 (ps.getD i (0, 0)).1) ∧ w.cell? ⟨b, off + i * 2 + 1, none⟩ = some (.int .i64 (ps.getD i (0, 0)).2))
    (hG : GoodPts ps) (h2 : 2 ≤ ps.length) :
    Calls Try.prog 43 #[.slice (some ⟨b, off, none⟩) ps.length cap] w fun e w' => e = .returned (.tuple #[.agg #[.int .i64 (ratN (prHi ps (bestPr ps) - prLo ps (bestPr ps)) (2 * prD ps (bestPr ps))), .int .i64 (ratD (prHi ps (bestPr ps) - prLo ps (bestPr ps)) (2 * prD ps (bestPr ps)))], .int .i64 0]) ∧ Below w.heap.size w w' := by
  have hl40 := hG.2.1
  have l1 : ((ps.length : Int) == 1) = false := beq_eq_false_iff_ne.2 (by omega)
  have HV : Hid (∀ W, Below w.heap.size w W → _) := fun W hW => rvalidPoints_t b off cap ps W (Nat.lt_of_lt_of_le hb hW.size) (by omega) (cells_on hb hc hW) hG
  have HN : Hid (∀ W, Below w.heap.size w W → _) := fun W hW => rnarrow_any b off cap ps W (Nat.lt_of_lt_of_le hb hW.size) (cells_on hb hc hW) hG h2
  obtain ⟨⟨v1, v2⟩, v3, v4⟩ := pr_val hG (bestPr_mem h2)
  obtain ⟨⟨u1, u2⟩, u3, u4⟩ := pr_bd hG (bestPr_mem h2)
  clear hc hG h2
  generalize prB ps (bestPr ps) = BB at *
  generalize prD ps (bestPr ps) = DD at *
  generalize prLo ps (bestPr ps) = LO at *
  generalize prHi ps (bestPr ps) = HI at *
  have HK : Hid (∀ W, _) := Lib.hid (fun W => rlowest_any (HI - LO) (2 * DD) W (by omega) (by omega) (by omega) (by omega))
  go_enter Try.func43, Try.ntmps43
  (go_wp2_with fail); refine calls_after (HV.out _ (by (repeat' (first | (with_reducible exact Below.refl _ _) | (with_reducible assumption) | (with_reducible refine Below.alloc ?_ ?_ _) | (with_reducible refine Below.drew ?_) | (with_reducible refine below_drewN ?_ _) | (with_reducible refine Below.setCell ?_ ?_ _) | (with_reducible refine below_after ?_ ?_ _) | (with_reducible refine below_set ?_) | (with_reducible refine After.size_le _ ?_) | (with_reducible refine size_alloc_le ?_) | (with_reducible refine size_set_le ?_) | (with_reducible refine size_drewN_le ?_) | go_size)))) ?_; intro x1; have hz_x1 := x1.out.size; (try simp only [World.size_alloc] at hz_x1); (try simp only [World.size_setCell] at hz_x1); have k0_x1 : w.heap.size < x1.w.heap.size := (by omega); have j0_x1 : w.heap.size < x1.w.heap.size + 1 := (by omega); have k1_x1 : b < x1.w.heap.size := (by omega); have j1_x1 : b < x1.w.heap.size + 1 := (by omega)
  (go_wp2_with fail); refine calls_after (HN.out _ (by (repeat' (first | (with_reducible exact Below.refl _ _) | (with_reducible assumption) | (with_reducible refine Below.alloc ?_ ?_ _) | (with_reducible refine Below.drew ?_) | (with_reducible refine below_drewN ?_ _) | (with_reducible refine Below.setCell ?_ ?_ _) | (with_reducible refine below_after ?_ ?_ _) | (with_reducible refine below_set ?_) | (with_reducible refine After.size_le _ ?_) | (with_reducible refine size_alloc_le ?_) | (with_reducible refine size_set_le ?_) | (with_reducible refine size_drewN_le ?_) | go_size)))) ?_; intro x2; have hz_x2 := x2.out.size; (try simp only [World.size_alloc] at hz_x2); (try simp only [World.size_setCell] at hz_x2); have k0_x2 : w.heap.size < x2.w.heap.size := (by omega); have j0_x2 : w.heap.size < x2.w.heap.size + 1 := (by omega)
  (go_wp2_with fail); refine calls_after (HK.out _) ?_; intro x3; have hz_x3 := x3.out.size; (try simp only [World.size_alloc] at hz_x3); (try simp only [World.size_setCell] at hz_x3); have k0_x3 : w.heap.size < x3.w.heap.size := (by omega); have j0_x3 : w.heap.size < x3.w.heap.size + 1 := (by omega); have k1_x3 : x2.w.heap.size < x3.w.heap.size := (by omega); have j1_x3 : x2.w.heap.size < x3.w.heap.size + 1 := (by omega)
  go_wp2_with fail
  have q (o : Nat) (v : Value) (hv : (w.alloc (.cells #[.int .i64 0, .int .i64 0] 43)).cell? ⟨w.heap.size, o, none⟩ = some v) : x3.w.cell? ⟨w.heap.size, o, none⟩ = some v := (x3.cell _ (by simpa using j0_x2)).trans (keep_alloc ((x2.cell _ (by simpa using k0_x1)).trans ((x1.cell _ (by simp)).trans hv)))
  have r0 := q 0 (.int .i64 0) (by simp [go_sem])
  have r1 := q 1 (.int .i64 0) (by simp [go_sem])
  generalize ratN (HI - LO) (2 * DD) = rn at *
  generalize ratD (HI - LO) (2 * DD) = rd at *
  obtain ⟨w0, w1⟩ := x3.set2 (.int .i64 rn) (.int .i64 rd) r0 r1
  refine bodyPost_ret (v := .tuple #[.agg #[.int .i64 rn, .int .i64 rd], .int .i64 0]) (by simp [results, Try.results43, go_sem, w0, w1]) rfl ⟨rfl, ?_⟩
  (repeat' (first | (with_reducible exact Below.refl _ _) | (with_reducible assumption) | (with_reducible refine Below.alloc ?_ ?_ _) | (with_reducible refine Below.drew ?_) | (with_reducible refine below_drewN ?_ _) | (with_reducible refine Below.setCell ?_ ?_ _) | (with_reducible refine below_after ?_ ?_ _) | (with_reducible refine below_set ?_) | (with_reducible refine After.size_le _ ?_) | (with_reducible refine size_alloc_le ?_) | (with_reducible refine size_set_le ?_) | (with_reducible refine size_drewN_le ?_) | go_size))
end Go.Proofs.Ytdhobjflfhijjaa
