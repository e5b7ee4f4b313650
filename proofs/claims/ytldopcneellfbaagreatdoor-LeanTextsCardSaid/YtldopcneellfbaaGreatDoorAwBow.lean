/- Bows of three points. -/
import Derived.Test.YtldopcneellfbaaGreatDoorAwPts
import Derived.Test.YtldopcneellfbaaGreatDoorAwLine
import Derived.BigRegion
namespace Go.Proofs.YtldopcneellfbaaGreatDoor.Aw
open Go.Proofs.YtldopcneellfbaaGreatDoor
open Go.RowKit
attribute [local go_sem] After.cell After.frozen After.lt After.le After.ne After.ne' After.set_eq After.size_set After.lt_add

/-- How far the middle one of three points is above the line through the outer two, times the height between these. -/
def bul (p q r : Int × Int) : Int := (q.2 - p.2) * (r.1 - p.1) - (r.2 - p.2) * (q.1 - p.1)
theorem prod_bd {a b A B : Int} (ha : -A ≤ a) (ha' : a ≤ A) (hb : -B ≤ b) (hb' : b ≤ B) : -(A * B) ≤ a * b ∧ a * b ≤ A * B := by
  have hA : 0 ≤ A := by omega
  have hB : 0 ≤ B := by omega
  have h1 : 0 ≤ (A - a) * (B + b) := Int.mul_nonneg (by omega) (by omega)
  have h2 : 0 ≤ (A + a) * (B - b) := Int.mul_nonneg (by omega) (by omega)
  have h3 : 0 ≤ (A - a) * (B - b) := Int.mul_nonneg (by omega) (by omega)
  have h4 : 0 ≤ (A + a) * (B + b) := Int.mul_nonneg (by omega) (by omega)
  simp only [Int.sub_mul, Int.add_mul, Int.mul_sub, Int.mul_add] at h1 h2 h3 h4
  generalize a * b = ab at *
  generalize A * B = AB at *
  generalize A * b = Ab at *
  generalize a * B = aB at *
  omega

set_option maxRecDepth 100000 in
set_option maxHeartbeats 400000 in
theorem bulge_any (p q r : Int × Int) (w : World) (hp : InPt p.1 p.2) (hq : InPt q.1 q.2) (hr : InPt r.1 r.2) :
    Calls Tryz.prog 53 #[.agg #[.int .i64 p.1, .int .i64 p.2], .agg #[.int .i64 q.1, .int .i64 q.2], .agg #[.int .i64 r.1, .int .i64 r.2]] w fun e w' => e = .returned (.int .i64 (bul p q r)) ∧ Below w.heap.size w w' := by
  obtain ⟨ph, px⟩ := p
  obtain ⟨qh, qx⟩ := q
  obtain ⟨rh, rx⟩ := r
  unfold InPt at hp hq hr
  dsimp only at *
  obtain ⟨a1, a2, a3, a4⟩ := hp
  obtain ⟨b1, b2, b3, b4⟩ := hq
  obtain ⟨c1, c2, c3, c4⟩ := hr
  have m1 := prod_bd (a := qx - px) (b := rh - ph) (A := 20000) (B := 200000) (by omega) (by omega) (by omega) (by omega)
  have m2 := prod_bd (a := rx - px) (b := qh - ph) (A := 20000) (B := 200000) (by omega) (by omega) (by omega) (by omega)
  obtain ⟨d1, d2⟩ := m1
  obtain ⟨e1, e2⟩ := m2
  go_enter Tryz.func53, Tryz.ntmps53
  go_wp2
  go_ret
  exact ⟨ret_int rfl, by (repeat' (first | (with_reducible exact Below.refl _ _) | (with_reducible assumption) | (with_reducible refine Below.alloc ?_ ?_ _) | (with_reducible refine Below.drew ?_) | (with_reducible refine below_drewN ?_ _) | (with_reducible refine Below.setCell ?_ ?_ _) | (with_reducible refine below_after ?_ ?_ _) | (with_reducible refine below_set ?_) | (with_reducible refine After.size_le _ ?_) | (with_reducible refine size_alloc_le ?_) | (with_reducible refine size_set_le ?_) | (with_reducible refine size_drewN_le ?_) | go_size))⟩

theorem bul_bd {p q r : Int × Int} (hp : InPt p.1 p.2) (hq : InPt q.1 q.2) (hr : InPt r.1 r.2) : -8000000000 ≤ bul p q r ∧ bul p q r ≤ 8000000000 := by
  unfold InPt at hp hq hr
  have m1 := prod_bd (a := q.2 - p.2) (b := r.1 - p.1) (A := 20000) (B := 200000) (by omega) (by omega) (by omega) (by omega)
  have m2 := prod_bd (a := r.2 - p.2) (b := q.1 - p.1) (A := 20000) (B := 200000) (by omega) (by omega) (by omega) (by omega)
  unfold bul
  omega

set_option maxRecDepth 100000 in
set_option maxHeartbeats 400000 in
theorem bow_any (b off cap : Nat) (ps : List (Int × Int)) (i j k : Nat) (w : World) (hb : b < w.heap.size) (_hlen : ps.length ≤ 1000)
    (hc : ∀ i, i < ps.length → w.cell? ⟨b, off + i * 2, none⟩ = some (.int .i64 (ps.getD i (0, 0)).1) ∧ w.cell? ⟨b, off + i * 2 + 1, none⟩ = some (.int .i64 (ps.getD i (0, 0)).2))
    (hi : i < ps.length) (hj : j < ps.length) (hk : k < ps.length) (hI : InPt (ps.getD i (0, 0)).1 (ps.getD i (0, 0)).2) (hJ : InPt (ps.getD j (0, 0)).1 (ps.getD j (0, 0)).2) (hK : InPt (ps.getD k (0, 0)).1 (ps.getD k (0, 0)).2) :
    Calls Tryz.prog 30 #[.slice (some ⟨b, off, none⟩) ps.length cap, .agg #[.int .i64 i, .int .i64 j, .int .i64 k]] w fun e w' => e = .returned (.agg #[.int .i64 (bul (ps.getD i (0, 0)) (ps.getD j (0, 0)) (ps.getD k (0, 0))).natAbs, .int .i64 ((ps.getD k (0, 0)).1 - (ps.getD i (0, 0)).1)]) ∧ Below w.heap.size w w' := by
  obtain ⟨i1, i2⟩ := hc i hi
  obtain ⟨j1, j2⟩ := hc j hj
  obtain ⟨k1, k2⟩ := hc k hk
  clear hc
  have HB := Lib.hid (bul_bd hI hJ hK)
  have HC := Lib.hid (fun w => bulge_any (ps.getD i (0, 0)) (ps.getD j (0, 0)) (ps.getD k (0, 0)) w hI hJ hK)
  have n1 : (i : Int) < (ps.length : Int) := by omega
  have n2 : (j : Int) < (ps.length : Int) := by omega
  have n3 : (k : Int) < (ps.length : Int) := by omega
  unfold InPt at hI hK
  obtain ⟨a1, a2, _, _⟩ := hI
  obtain ⟨e1, e2, _, _⟩ := hK
  clear hJ hi hj hk
  generalize ps.length = n at *
  generalize bul (ps.getD i (0, 0)) (ps.getD j (0, 0)) (ps.getD k (0, 0)) = B at *
  generalize ps.getD i (0, 0) = p at *
  generalize ps.getD j (0, 0) = q at *
  generalize ps.getD k (0, 0) = r at *
  obtain ⟨ph, px⟩ := p
  obtain ⟨qh, qx⟩ := q
  obtain ⟨rh, rx⟩ := r
  dsimp only at *
  go_enter Tryz.func30, Tryz.ntmps30
  go_wp2
  obtain ⟨W, hW⟩ : ∃ W, W = (w.alloc (.cells #[.int .i64 i, .int .i64 j, .int .i64 k] 66)).alloc (.cells #[.int .i64 0, .int .i64 0] 73) := ⟨_, rfl⟩
  rw [← hW]
  have t0 : W.cell? ⟨w.heap.size, 0, none⟩ = some (.int .i64 i) := by rw [hW]; simp [go_sem]
  have t1 : W.cell? ⟨w.heap.size, 1, none⟩ = some (.int .i64 j) := by rw [hW]; simp [go_sem]
  have t2 : W.cell? ⟨w.heap.size, 2, none⟩ = some (.int .i64 k) := by rw [hW]; simp [go_sem]
  have r0 : W.cell? ⟨w.heap.size + 1, 0, none⟩ = some (.int .i64 0) := by rw [hW]; simp [go_sem]
  have r1 : W.cell? ⟨w.heap.size + 1, 1, none⟩ = some (.int .i64 0) := by rw [hW]; simp [go_sem]
  have rf : ∀ o, W.frozen? ⟨w.heap.size + 1, o, none⟩ = false := by rw [hW]; intro o; simp [go_sem]
  have hB : Below w.heap.size w W := by rw [hW]; (repeat' (first | (with_reducible exact Below.refl _ _) | (with_reducible assumption) | (with_reducible refine Below.alloc ?_ ?_ _) | (with_reducible refine Below.drew ?_) | (with_reducible refine below_drewN ?_ _) | (with_reducible refine Below.setCell ?_ ?_ _) | (with_reducible refine below_after ?_ ?_ _) | (with_reducible refine below_set ?_) | (with_reducible refine After.size_le _ ?_) | (with_reducible refine size_alloc_le ?_) | (with_reducible refine size_set_le ?_) | (with_reducible refine size_drewN_le ?_) | go_size))
  have hz : W.heap.size = w.heap.size + 2 := by rw [hW]; simp
  have HW := Lib.hid hW
  clear hW
  have z0 : w.heap.size < W.heap.size := by omega
  have z1 : w.heap.size + 1 < W.heap.size := by omega
  have zb : b < W.heap.size := by omega
  have HZ := Lib.hid hz
  clear hz
  have i1 := (hB.cell (p := ⟨b, off + i * 2, none⟩) hb).trans i1
  have i2 := (hB.cell (p := ⟨b, off + i * 2 + 1, none⟩) hb).trans i2
  have j1 := (hB.cell (p := ⟨b, off + j * 2, none⟩) hb).trans j1
  have j2 := (hB.cell (p := ⟨b, off + j * 2 + 1, none⟩) hb).trans j2
  have k1 := (hB.cell (p := ⟨b, off + k * 2, none⟩) hb).trans k1
  have k2 := (hB.cell (p := ⟨b, off + k * 2 + 1, none⟩) hb).trans k2
  go_region_held3 (fun w' => W.heap.size ≤ w'.heap.size ∧ ∀ p : Addr, p.block < W.heap.size → w'.cell? p = W.cell? p)
    (first | exact kept_drew W | exact kept_alloc (by assumption) | exact kept_alloc (kept_alloc (kept_alloc (kept_drew W))) | exact kept_set (by assumption) (by simp)) (fail)
  all_goals
    have y1 : w.heap.size + 1 < W.heap.size + 1 := by omega
    have y2 : w.heap.size + 1 < W.heap.size + 2 := by omega
    have y3 : w.heap.size + 1 < W.heap.size + 3 := by omega
    have HB' := HB.out
    obtain ⟨g1, g2⟩ := HB'
    go_wp2
    refine wp_region_after_tail 11 (by kernel_rfl) (by kernel_rfl) ?_; simp only [List.take_succ_cons, List.take_zero, List.drop_succ_cons, List.drop_zero]; (repeat (first | go_big_quiet_step ((first | (go_at_call 53; exact quiet_after (HC.out _)) | (go_at_call 52; go_must (refine quiet_after_same (abs_any _ _ ?_ ?_) <;> omega)))) | (refine wpQuiet_step (fun K hK => ?_); go_simp; first | (refine hK _ ?_; clear hK K) | (apply Exists.intro; refine ⟨fun x => ?_, hK _ ?_⟩; (first | (go_at_call 53; exact quiet_after (HC.out _)) | (go_at_call 52; go_must (refine quiet_after_same (abs_any _ _ ?_ ?_) <;> omega))); clear hK K)))); refine wpQuiet_nil ?_
    intro x
    go_wp2
    refine bodyPost_ret (v := .agg #[.int .i64 (B.natAbs : Nat), .int .i64 (rh - ph)]) (by simp [results, Tryz.results30, go_sem, z1, y1, y2, y3, r0, r1]) rfl ⟨rfl, ?_⟩
    have hz := HZ.out
    have u1 : w.heap.size ≤ W.heap.size := by omega
    (repeat' (first | (with_reducible exact Below.refl _ _) | (with_reducible assumption) | (with_reducible refine Below.alloc ?_ ?_ _) | (with_reducible refine Below.drew ?_) | (with_reducible refine below_drewN ?_ _) | (with_reducible refine Below.setCell ?_ ?_ _) | (with_reducible refine below_after ?_ ?_ _) | (with_reducible refine below_set ?_) | (with_reducible refine After.size_le _ ?_) | (with_reducible refine size_alloc_le ?_) | (with_reducible refine size_set_le ?_) | (with_reducible refine size_drewN_le ?_) | go_size))
end Go.Proofs.YtldopcneellfbaaGreatDoor.Aw
