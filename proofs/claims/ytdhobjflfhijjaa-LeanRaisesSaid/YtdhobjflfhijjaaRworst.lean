/- The farthest point from a line, as the reference finds it. -/
import Derived.Test.YtdhobjflfhijjaaFarth
namespace Go.Proofs.Ytdhobjflfhijjaa
open Go.RowKit
attribute [local go_sem] After.cell After.frozen After.lt After.le After.ne After.ne' After.set_eq After.size_set After.lt_add

set_option maxRecDepth 100000 in
set_option maxHeartbeats 1000000 in
theorem rworst_any (b off cap : Nat) (x : Int × Int × Int) (ps : List (Int × Int)) (w : World) (hb : b < w.heap.size) (hlen : ps.length ≤ 1000)
    (hc : ∀ i, i < ps.length → w.cell? ⟨b, off + i * 2, none⟩ = some (.int .i64 (ps.getD i (0, 0)).1) ∧ w.cell? ⟨b, off + i * 2 + 1, none⟩ = some (.int .i64 (ps.getD i (0, 0)).2))
    (hx : LnOk x) (hA : AllIn ps) :
    Calls Try.prog 78 #[.agg #[.int .i64 x.1, .int .i64 x.2.1, .int .i64 x.2.2], .slice (some ⟨b, off, none⟩) ps.length cap] w fun e w' => e = .returned (.int .i64 (worI x ps)) ∧ Below w.heap.size w w' := by
  have HX : Hid (∀ i, i < ps.length → ∀ W : World, Calls Try.prog 76 #[.agg #[.int .i64 x.1, .int .i64 x.2.1, .int .i64 x.2.2], .agg #[.int .i64 (ps.getD i (0, 0)).1, .int .i64 (ps.getD i (0, 0)).2]] W fun e w' => e = .returned (.int .i64 (farV x (ps.getD i (0, 0)))) ∧ Below W.heap.size W w') := fun i hi W =>
    far_any x.1 x.2.1 x.2.2 _ _ W hx (hA i hi)
  have HC : Hid (∀ W, Below w.heap.size w W → ∀ i, i < ps.length → W.cell? ⟨b, off + i * 2, none⟩ = some (.int .i64 (ps.getD i (0, 0)).1) ∧ W.cell? ⟨b, off + i * 2 + 1, none⟩ = some (.int .i64 (ps.getD i (0, 0)).2)) := fun W hW => cells_on hb hc hW
  have HP : Hid (∀ i j, 0 < farC x ps i j ↔ farV x (ps.getD j (0, 0)) < farV x (ps.getD i (0, 0))) := fun i j => farC_pos
  clear hc hA hx
  unfold worI
  generalize farC x ps = f at *
  obtain ⟨xa, xb, xd⟩ := x
  dsimp only at *
  generalize hF : farV (xa, xb, xd) = F at *
  clear hF
  go_enter Try.func78, Try.ntmps78
  go_wp2
  obtain ⟨W0, hW0⟩ : ∃ W0, w.alloc (.cells #[.int .i64 xa, .int .i64 xb, .int .i64 xd] 35) = W0 := ⟨_, rfl⟩
  have hB0 : Below w.heap.size w W0 := by rw [← hW0]; exact (Below.refl _ _).alloc (Nat.le_refl _) _
  have hz0 : w.heap.size < W0.heap.size := by rw [← hW0]; simp
  have x0 : W0.cell? ⟨w.heap.size, 0, none⟩ = some (.int .i64 xa) := by rw [← hW0]; simp [go_sem]
  have x1 : W0.cell? ⟨w.heap.size, 1, none⟩ = some (.int .i64 xb) := by rw [← hW0]; simp [go_sem]
  have x2 : W0.cell? ⟨w.heap.size, 2, none⟩ = some (.int .i64 xd) := by rw [← hW0]; simp [go_sem]
  rw [hW0]
  clear hW0
  have HB := Lib.hid hB0
  have hb0 : b < W0.heap.size := Nat.lt_trans hb hz0
  have HC0 := Lib.hid (HC.out W0 hB0)
  clear hB0 HC
  go_loopw [5, 6] (fun v i wr => ∃ k : Nat, k ≤ ps.length ∧ i = .int .i64 k ∧ v = .int .i64 (bestTo f k) ∧ ∃ x : After W0, wr = x.w) (fun _ i _ => ps.length - (intOf i).toNat)
  case atStart => exact ⟨0, by omega, rfl, rfl, ⟨W0, Below.refl _ _⟩, rfl⟩
  case round =>
    obtain ⟨k, hk, rfl, rfl, x, rfl⟩ := hrel
    by_cases hlt : k < ps.length
    · have hq : bestTo f k < ps.length := by have := bestTo_le f k; omega
      obtain ⟨c1, c2⟩ := HC0.out k hlt
      obtain ⟨d1, d2⟩ := HC0.out _ hq
      have HK := Lib.hid (HX.out k hlt)
      have HQ := Lib.hid (HX.out _ hq)
      have HS : Hid (bestTo f (k + 1) = if 0 < f k (bestTo f k) then k else bestTo f k) := rfl
      have HV := Lib.hid (HP.out k (bestTo f k))
      generalize F (ps.getD (bestTo f k) (0, 0)) = fq at *
      generalize F (ps.getD k (0, 0)) = fk at *
      generalize ps.getD k (0, 0) = p at *
      generalize bestTo f k = q at *
      generalize ps.getD q (0, 0) = r at *
      generalize f k q = v at *
      obtain ⟨p1, p2⟩ := p
      obtain ⟨r1, r2⟩ := r
      dsimp only at *
      have hq' : (q : Int) < (ps.length : Int) := by omega
      by_cases hv : fq < fk
      · go_wp2_with fail
        refine wp_region_after (by kernel_rfl) (by kernel_rfl) ?_; (repeat (first | go_big_quiet_step ((go_at_call 76; first | (with_reducible exact quiet_after (HK.out _)) | (with_reducible exact quiet_after (HQ.out _)))) | (refine wpQuiet_step (fun K hK => ?_); go_simp; first | (refine hK _ ?_; clear hK K) | (apply Exists.intro; refine ⟨fun x => ?_, hK _ ?_⟩; (go_at_call 76; first | (with_reducible exact quiet_after (HK.out _)) | (with_reducible exact quiet_after (HQ.out _))); clear hK K)))); refine wpQuiet_nil ?_
        intro y
        go_wp2
        go_roundw
        case rel => exact ⟨k + 1, by omega, by go_num, by rw [HS.out, if_pos (HV.out.2 hv)], ⟨_, x.out.trans (y.out.mono x.out.size)⟩, rfl⟩
        case measure => simp [intOf]; omega
      · go_wp2_with fail
        refine wp_region_after (by kernel_rfl) (by kernel_rfl) ?_; (repeat (first | go_big_quiet_step ((go_at_call 76; first | (with_reducible exact quiet_after (HK.out _)) | (with_reducible exact quiet_after (HQ.out _)))) | (refine wpQuiet_step (fun K hK => ?_); go_simp; first | (refine hK _ ?_; clear hK K) | (apply Exists.intro; refine ⟨fun x => ?_, hK _ ?_⟩; (go_at_call 76; first | (with_reducible exact quiet_after (HK.out _)) | (with_reducible exact quiet_after (HQ.out _))); clear hK K)))); refine wpQuiet_nil ?_
        intro y
        go_wp2
        go_roundw
        case rel => exact ⟨k + 1, by omega, by go_num, by rw [HS.out, if_neg (fun h => by have := HV.out.1 h; omega)], ⟨_, x.out.trans (y.out.mono x.out.size)⟩, rfl⟩
        case measure => simp [intOf]; omega
    · obtain rfl : k = ps.length := by omega
      go_wp2
      go_ret
      exact ⟨rfl, (HB.out.trans (x.out.mono HB.out.size))⟩
end Go.Proofs.Ytdhobjflfhijjaa
