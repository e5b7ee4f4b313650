/- The farthest point from a line, as the program finds it. -/
import Derived.Test.YtdhobjflfhijjaaNearest
import Derived.Test.YtdhobjflfhijjaaDist
namespace Go.Proofs.Ytdhobjflfhijjaa
open Go.RowKit
attribute [local go_sem] After.cell After.frozen After.lt After.le After.ne After.ne' After.set_eq After.size_set After.lt_add

/-- A line's three numbers. -/
def LnOk (x : Int × Int × Int) : Prop := InBd x.1 x.2.1 x.2.2
def farV (x : Int × Int × Int) (p : Int × Int) : Int := (offV x.1 x.2.1 x.2.2 p.1 p.2).natAbs
def farC (x : Int × Int × Int) (ps : List (Int × Int)) (i j : Nat) : Int := cmp3 (farV x (ptAt ps i)) (farV x (ptAt ps j))
theorem farC_pos {x : Int × Int × Int} {ps : List (Int × Int)} {i j : Nat} : 0 < farC x ps i j ↔ farV x (ptAt ps j) < farV x (ptAt ps i) := by
  unfold farC cmp3; split
  · constructor <;> intro <;> omega
  · split <;> constructor <;> intro <;> omega
/-- The first point that is farthest. -/
def worI (x : Int × Int × Int) (ps : List (Int × Int)) : Nat := bestTo (farC x ps) ps.length

set_option maxRecDepth 100000 in
set_option maxHeartbeats 400000 in
theorem farth1_any (a b d ph px qh qx : Int) (Bx : Nat) (w : World) (hI : InBd a b d) (hp : InPt ph px) (hq : InPt qh qx) (hB : Bx < w.heap.size)
    (h0 : w.cell? ⟨Bx, 0, none⟩ = some (.int .i64 a)) (h1 : w.cell? ⟨Bx, 1, none⟩ = some (.int .i64 b)) (h2 : w.cell? ⟨Bx, 2, none⟩ = some (.int .i64 d)) :
    Calls Try.prog 104 #[.agg #[.int .i64 ph, .int .i64 px], .agg #[.int .i64 qh, .int .i64 qx], .pointer (some ⟨Bx, 0, none⟩)] w fun e w' => e = .returned (.int .i64 (farC (a, b, d) [(ph, px), (qh, qx)] 0 1)) ∧ Below w.heap.size w w' := by
  have HP := Lib.hid (fun w => above_any a b d ph px w hI hp)
  have HQ := Lib.hid (fun w => above_any a b d qh qx w hI hq)
  have b1 := offV_bd hI hp
  have b2 := offV_bd hI hq
  have HR : Hid (farC (a, b, d) [(ph, px), (qh, qx)] 0 1 = cmp3 (offV a b d ph px).natAbs (offV a b d qh qx).natAbs) := rfl
  rw [HR.out]
  clear HR hI hp hq
  generalize offV a b d ph px = P at *
  generalize offV a b d qh qx = Q at *
  obtain ⟨b1, b1'⟩ := b1
  obtain ⟨b2, b2'⟩ := b2
  have hB1 : Bx < w.heap.size + 1 := by omega
  have hB2 : Bx < w.heap.size + 2 := by omega
  go_enter Try.func104, Try.ntmps104
  go_wp2_with fail
  refine wp_region_after (by kernel_rfl) (by kernel_rfl) ?_; (repeat (first | go_big_quiet_step ((first | (go_at_call 74; first | (with_reducible exact quiet_after (HP.out _)) | (with_reducible exact quiet_after (HQ.out _))) | (go_at_call 73; exact quiet_after_same (abs_any _ _ (by omega) (by omega))) | (go_at_call 105; exact quiet_after_drew (cmpInt_any _ _ _)))) | (refine wpQuiet_step (fun K hK => ?_); go_simp; first | (refine hK _ ?_; clear hK K) | (apply Exists.intro; refine ⟨fun x => ?_, hK _ ?_⟩; (first | (go_at_call 74; first | (with_reducible exact quiet_after (HP.out _)) | (with_reducible exact quiet_after (HQ.out _))) | (go_at_call 73; exact quiet_after_same (abs_any _ _ (by omega) (by omega))) | (go_at_call 105; exact quiet_after_drew (cmpInt_any _ _ _))); clear hK K)))); refine wpQuiet_nil ?_
  intro x1
  go_wp2
  go_ret
  exact ⟨rfl, by (repeat' (first | (with_reducible exact Below.refl _ _) | (with_reducible assumption) | (with_reducible refine Below.alloc ?_ ?_ _) | (with_reducible refine Below.drew ?_) | (with_reducible refine below_drewN ?_ _) | (with_reducible refine Below.setCell ?_ ?_ _) | (with_reducible refine below_after ?_ ?_ _) | (with_reducible refine below_set ?_) | (with_reducible refine After.size_le _ ?_) | (with_reducible refine size_alloc_le ?_) | (with_reducible refine size_set_le ?_) | (with_reducible refine size_drewN_le ?_) | go_size))⟩

set_option maxRecDepth 100000 in
set_option maxHeartbeats 1000000 in
theorem greatPt_any (b off cap Bx : Nat) (x : Int × Int × Int) (ps : List (Int × Int)) (w : World) (hb : b < w.heap.size) (hB : Bx < w.heap.size) (hlen : ps.length ≤ 1000)
    (hc : ∀ i, i < ps.length → w.cell? ⟨b, off + i * 2, none⟩ = some (.int .i64 (ps.getD i (0, 0)).1) ∧ w.cell? ⟨b, off + i * 2 + 1, none⟩ = some (.int .i64 (ps.getD i (0, 0)).2))
    (h0 : w.cell? ⟨Bx, 0, none⟩ = some (.int .i64 x.1)) (h1 : w.cell? ⟨Bx, 1, none⟩ = some (.int .i64 x.2.1)) (h2 : w.cell? ⟨Bx, 2, none⟩ = some (.int .i64 x.2.2))
    (hx : LnOk x) (hA : AllIn ps) (hn : 0 < ps.length) :
    Calls Try.prog 103 #[.slice (some ⟨b, off, none⟩) ps.length cap, .func (.func 104) #[] #[.pointer (some ⟨Bx, 0, none⟩)]] w fun e w' => e = .returned (.int .i64 (worI x ps)) ∧ Below w.heap.size w w' := by
  have HX : Hid (∀ i j, i < ps.length → j < ps.length → ∀ W : World, Below w.heap.size w W → Calls Try.prog 104 #[.agg #[.int .i64 (ps.getD i (0, 0)).1, .int .i64 (ps.getD i (0, 0)).2], .agg #[.int .i64 (ps.getD j (0, 0)).1, .int .i64 (ps.getD j (0, 0)).2], .pointer (some ⟨Bx, 0, none⟩)] W fun e w' => e = .returned (.int .i64 (farC x ps i j)) ∧ Below W.heap.size W w') := fun i j hi hj W hW =>
    farth1_any x.1 x.2.1 x.2.2 _ _ _ _ Bx W hx (hA i hi) (hA j hj) (Nat.lt_of_lt_of_le hB hW.size) ((hW.cell (p := ⟨Bx, _, none⟩) hB).trans h0) ((hW.cell (p := ⟨Bx, _, none⟩) hB).trans h1) ((hW.cell (p := ⟨Bx, _, none⟩) hB).trans h2)
  have HT := Lib.hid hc
  clear hc hA hx h0 h1 h2
  unfold worI
  generalize farC x ps = f at *
  go_enter Try.func103, Try.ntmps103
  go_wp2
  go_loopw [5, 9] (fun v i wr => ∃ k : Nat, k ≤ ps.length ∧ i = .int .i64 k ∧ v = .int .i64 (bestTo f k) ∧ ∃ x : After w, wr = x.w) (fun _ i _ => ps.length - (intOf i).toNat)
  case atStart => exact ⟨0, by omega, rfl, rfl, ⟨w, Below.refl _ _⟩, rfl⟩
  case round =>
    obtain ⟨k, hk, rfl, rfl, x, rfl⟩ := hrel
    by_cases hlt : k < ps.length
    · have hq : bestTo f k < ps.length := by have := bestTo_le f k; omega
      obtain ⟨c1, c2⟩ := HT.out k hlt
      obtain ⟨d1, d2⟩ := HT.out _ hq
      have HC := Lib.hid (HX.out k _ hlt hq)
      have HS : Hid (bestTo f (k + 1) = if 0 < f k (bestTo f k) then k else bestTo f k) := rfl
      generalize ps.getD k (0, 0) = p at *
      generalize bestTo f k = q at *
      generalize ps.getD q (0, 0) = r at *
      generalize f k q = v at *
      obtain ⟨p1, p2⟩ := p
      obtain ⟨r1, r2⟩ := r
      dsimp only at *
      have hq' : (q : Int) < (ps.length : Int) := by omega
      by_cases hv : 0 < v
      · go_wp2
        refine wp_region_after (by kernel_rfl) (by kernel_rfl) ?_; (repeat (first | go_big_quiet_step ((go_at_call 104; refine quiet_after (HC.out _ ?_); (repeat' (first | (with_reducible exact Below.refl _ _) | (with_reducible assumption) | (with_reducible refine Below.alloc ?_ ?_ _) | (with_reducible refine Below.drew ?_) | (with_reducible refine below_drewN ?_ _) | (with_reducible refine Below.setCell ?_ ?_ _) | (with_reducible refine below_after ?_ ?_ _) | (with_reducible refine below_set ?_) | (with_reducible refine After.size_le _ ?_) | (with_reducible refine size_alloc_le ?_) | (with_reducible refine size_set_le ?_) | (with_reducible refine size_drewN_le ?_) | go_size)))) | (refine wpQuiet_step (fun K hK => ?_); go_simp; first | (refine hK _ ?_; clear hK K) | (apply Exists.intro; refine ⟨fun x => ?_, hK _ ?_⟩; (go_at_call 104; refine quiet_after (HC.out _ ?_); (repeat' (first | (with_reducible exact Below.refl _ _) | (with_reducible assumption) | (with_reducible refine Below.alloc ?_ ?_ _) | (with_reducible refine Below.drew ?_) | (with_reducible refine below_drewN ?_ _) | (with_reducible refine Below.setCell ?_ ?_ _) | (with_reducible refine below_after ?_ ?_ _) | (with_reducible refine below_set ?_) | (with_reducible refine After.size_le _ ?_) | (with_reducible refine size_alloc_le ?_) | (with_reducible refine size_set_le ?_) | (with_reducible refine size_drewN_le ?_) | go_size))); clear hK K)))); refine wpQuiet_nil ?_
        intro y
        go_wp2
        go_roundw
        case rel => exact ⟨k + 1, by omega, by go_num, by rw [HS.out, if_pos hv], ⟨_, x.out.trans (y.out.mono x.out.size)⟩, rfl⟩
        case measure => simp [intOf]; omega
      · go_wp2
        refine wp_region_after (by kernel_rfl) (by kernel_rfl) ?_; (repeat (first | go_big_quiet_step ((go_at_call 104; refine quiet_after (HC.out _ ?_); (repeat' (first | (with_reducible exact Below.refl _ _) | (with_reducible assumption) | (with_reducible refine Below.alloc ?_ ?_ _) | (with_reducible refine Below.drew ?_) | (with_reducible refine below_drewN ?_ _) | (with_reducible refine Below.setCell ?_ ?_ _) | (with_reducible refine below_after ?_ ?_ _) | (with_reducible refine below_set ?_) | (with_reducible refine After.size_le _ ?_) | (with_reducible refine size_alloc_le ?_) | (with_reducible refine size_set_le ?_) | (with_reducible refine size_drewN_le ?_) | go_size)))) | (refine wpQuiet_step (fun K hK => ?_); go_simp; first | (refine hK _ ?_; clear hK K) | (apply Exists.intro; refine ⟨fun x => ?_, hK _ ?_⟩; (go_at_call 104; refine quiet_after (HC.out _ ?_); (repeat' (first | (with_reducible exact Below.refl _ _) | (with_reducible assumption) | (with_reducible refine Below.alloc ?_ ?_ _) | (with_reducible refine Below.drew ?_) | (with_reducible refine below_drewN ?_ _) | (with_reducible refine Below.setCell ?_ ?_ _) | (with_reducible refine below_after ?_ ?_ _) | (with_reducible refine below_set ?_) | (with_reducible refine After.size_le _ ?_) | (with_reducible refine size_alloc_le ?_) | (with_reducible refine size_set_le ?_) | (with_reducible refine size_drewN_le ?_) | go_size))); clear hK K)))); refine wpQuiet_nil ?_
        intro y
        go_wp2
        go_roundw
        case rel => exact ⟨k + 1, by omega, by go_num, by rw [HS.out, if_neg (by omega)], ⟨_, x.out.trans (y.out.mono x.out.size)⟩, rfl⟩
        case measure => simp [intOf]; omega
    · obtain rfl : k = ps.length := by omega
      go_wp2
      go_ret
      exact ⟨rfl, by (repeat' (first | (with_reducible exact Below.refl _ _) | (with_reducible assumption) | (with_reducible refine Below.alloc ?_ ?_ _) | (with_reducible refine Below.drew ?_) | (with_reducible refine below_drewN ?_ _) | (with_reducible refine Below.setCell ?_ ?_ _) | (with_reducible refine below_after ?_ ?_ _) | (with_reducible refine below_set ?_) | (with_reducible refine After.size_le _ ?_) | (with_reducible refine size_alloc_le ?_) | (with_reducible refine size_set_le ?_) | (with_reducible refine size_drewN_le ?_) | go_size))⟩

set_option maxRecDepth 100000 in
set_option maxHeartbeats 400000 in
theorem farthest_any (b off cap : Nat) (x : Int × Int × Int) (ps : List (Int × Int)) (w : World) (hb : b < w.heap.size) (hlen : ps.length ≤ 1000)
    (hc : ∀ i, i < ps.length → w.cell? ⟨b, off + i * 2, none⟩ = some (.int .i64 (ps.getD i (0, 0)).1) ∧ w.cell? ⟨b, off + i * 2 + 1, none⟩ = some (.int .i64 (ps.getD i (0, 0)).2))
    (hx : LnOk x) (hA : AllIn ps) (hn : 0 < ps.length) :
    Calls Try.prog 77 #[.agg #[.int .i64 x.1, .int .i64 x.2.1, .int .i64 x.2.2], .slice (some ⟨b, off, none⟩) ps.length cap] w fun e w' => e = .returned (.int .i64 (worI x ps)) ∧ Below w.heap.size w w' := by
  have HG : Hid (∀ W, Below w.heap.size w W → w.heap.size < W.heap.size → W.cell? ⟨w.heap.size, 0, none⟩ = some (.int .i64 x.1) → W.cell? ⟨w.heap.size, 1, none⟩ = some (.int .i64 x.2.1) → W.cell? ⟨w.heap.size, 2, none⟩ = some (.int .i64 x.2.2) → _) := fun W hW hB h0 h1 h2 =>
    greatPt_any b off cap w.heap.size x ps W (Nat.lt_of_lt_of_le hb hW.size) hB hlen (cells_on hb hc hW) h0 h1 h2 hx hA hn
  clear hc hx hA
  generalize worI x ps = v at *
  obtain ⟨xa, xb, xd⟩ := x
  dsimp only at *
  go_enter Try.func77, Try.ntmps77
  go_wp2_with fail
  refine calls_after (HG.out _ (by (repeat' (first | (with_reducible exact Below.refl _ _) | (with_reducible assumption) | (with_reducible refine Below.alloc ?_ ?_ _) | (with_reducible refine Below.drew ?_) | (with_reducible refine below_drewN ?_ _) | (with_reducible refine Below.setCell ?_ ?_ _) | (with_reducible refine below_after ?_ ?_ _) | (with_reducible refine below_set ?_) | (with_reducible refine After.size_le _ ?_) | (with_reducible refine size_alloc_le ?_) | (with_reducible refine size_set_le ?_) | (with_reducible refine size_drewN_le ?_) | go_size))) (by simp) (by simp [go_sem]) (by simp [go_sem]) (by simp [go_sem])) ?_
  intro x1
  go_wp2
  go_ret
  exact ⟨rfl, by (repeat' (first | (with_reducible exact Below.refl _ _) | (with_reducible assumption) | (with_reducible refine Below.alloc ?_ ?_ _) | (with_reducible refine Below.drew ?_) | (with_reducible refine below_drewN ?_ _) | (with_reducible refine Below.setCell ?_ ?_ _) | (with_reducible refine below_after ?_ ?_ _) | (with_reducible refine below_set ?_) | (with_reducible refine After.size_le _ ?_) | (with_reducible refine size_alloc_le ?_) | (with_reducible refine size_set_le ?_) | (with_reducible refine size_drewN_le ?_) | go_size))⟩
end Go.Proofs.Ytdhobjflfhijjaa
