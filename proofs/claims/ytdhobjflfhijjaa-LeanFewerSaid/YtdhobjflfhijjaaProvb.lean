/- Proves, in both programs. -/
import Derived.Test.YtdhobjflfhijjaaProv
import Derived.Test.YtdhobjflfhijjaaRworstb
namespace Go.Proofs.Ytdhobjflfhijjaa
open Go.RowKit
attribute [local go_sem] After.cell After.frozen After.lt After.le After.ne After.ne' After.set_eq After.size_set After.lt_add

def IdxOk (n : Nat) (i j k : Int) : Prop := 0 ≤ i ∧ i < j ∧ j < k ∧ k < (n : Int)
instance (n : Nat) (i j k : Int) : Decidable (IdxOk n i j k) := by unfold IdxOk; infer_instance

set_option maxRecDepth 100000 in
set_option maxHeartbeats 400000 in
theorem pv_line (a b d i j k : Int) (v : Value) (w : World) (h : ¬ GoodLine a b d) :
    Calls Try.prog 47 #[.agg #[.int .i64 a, .int .i64 b, .int .i64 d], v, .agg #[.int .i64 i, .int .i64 j, .int .i64 k]] w fun e w' => e = .returned (.bool false) ∧ Below w.heap.size w w' := by
  have HL := Lib.hid (fun w => validLine_f a b d w h)
  clear h
  go_enter Try.func47, Try.ntmps47
  (go_wp2_with fail); refine calls_after (HL.out _) ?_; intro x1
  go_wp2
  go_ret
  exact ⟨rfl, by (repeat' (first | (with_reducible exact Below.refl _ _) | (with_reducible assumption) | (with_reducible refine Below.alloc ?_ ?_ _) | (with_reducible refine Below.drew ?_) | (with_reducible refine below_drewN ?_ _) | (with_reducible refine Below.setCell ?_ ?_ _) | (with_reducible refine below_after ?_ ?_ _) | (with_reducible refine below_set ?_) | (with_reducible refine After.size_le _ ?_) | (with_reducible refine size_alloc_le ?_) | (with_reducible refine size_set_le ?_) | (with_reducible refine size_drewN_le ?_) | go_size))⟩
set_option maxRecDepth 100000 in
set_option maxHeartbeats 400000 in
theorem pv_pts (a b d i j k : Int) (v : Value) (w : World) (h : GoodLine a b d) (hv : PtsSay w v false) :
    Calls Try.prog 47 #[.agg #[.int .i64 a, .int .i64 b, .int .i64 d], v, .agg #[.int .i64 i, .int .i64 j, .int .i64 k]] w fun e w' => e = .returned (.bool false) ∧ Below w.heap.size w w' := by
  have HL := Lib.hid (fun w => validLine_t a b d w h)
  have HV : Hid (∀ W, Below w.heap.size w W → _) := hv
  clear h hv
  go_enter Try.func47, Try.ntmps47
  (go_wp2_with fail); refine calls_after (HL.out _) ?_; intro x1
  (go_wp2_with fail); refine calls_after2 (HV.out _ (by (repeat' (first | (with_reducible exact Below.refl _ _) | (with_reducible assumption) | (with_reducible refine Below.alloc ?_ ?_ _) | (with_reducible refine Below.drew ?_) | (with_reducible refine below_drewN ?_ _) | (with_reducible refine Below.setCell ?_ ?_ _) | (with_reducible refine below_after ?_ ?_ _) | (with_reducible refine below_set ?_) | (with_reducible refine After.size_le _ ?_) | (with_reducible refine size_alloc_le ?_) | (with_reducible refine size_set_le ?_) | (with_reducible refine size_drewN_le ?_) | go_size)))) ?_; intro x2
  go_wp2
  go_ret
  exact ⟨rfl, by (repeat' (first | (with_reducible exact Below.refl _ _) | (with_reducible assumption) | (with_reducible refine Below.alloc ?_ ?_ _) | (with_reducible refine Below.drew ?_) | (with_reducible refine below_drewN ?_ _) | (with_reducible refine Below.setCell ?_ ?_ _) | (with_reducible refine below_after ?_ ?_ _) | (with_reducible refine below_set ?_) | (with_reducible refine After.size_le _ ?_) | (with_reducible refine size_alloc_le ?_) | (with_reducible refine size_set_le ?_) | (with_reducible refine size_drewN_le ?_) | go_size))⟩
set_option maxRecDepth 100000 in
set_option maxHeartbeats 1000000 in
theorem pv_idx (a b d i j k : Int) (ad : Option Addr) (n cap : Nat) (w : World) (h : GoodLine a b d) (hv : PtsSay w (.slice ad n cap) true) (hx : ¬ IdxOk n i j k) :
    Calls Try.prog 47 #[.agg #[.int .i64 a, .int .i64 b, .int .i64 d], .slice ad n cap, .agg #[.int .i64 i, .int .i64 j, .int .i64 k]] w fun e w' => e = .returned (.bool false) ∧ Below w.heap.size w w' := by
  have HL := Lib.hid (fun w => validLine_t a b d w h)
  have HV : Hid (∀ W, Below w.heap.size w W → _) := hv
  clear h hv
  unfold IdxOk at hx
  rcases (show i < 0 ∨ (0 ≤ i ∧ j ≤ i) ∨ (0 ≤ i ∧ i < j ∧ k ≤ j) ∨ (0 ≤ i ∧ i < j ∧ j < k ∧ (n : Int) ≤ k) by omega) with h1 | h1 | h1 | h1
  all_goals
    clear hx
    try obtain ⟨h1, h2⟩ := h1
    try obtain ⟨h2, h3⟩ := h2
    try obtain ⟨h3, h4⟩ := h3
    go_enter Try.func47, Try.ntmps47
    (go_wp2_with fail); refine calls_after (HL.out _) ?_; intro x1; have hz_x1 := x1.out.size; (try simp only [World.size_alloc] at hz_x1); (try simp only [World.size_setCell] at hz_x1); have k0_x1 : w.heap.size < x1.w.heap.size := (by omega); have j0_x1 : w.heap.size < x1.w.heap.size + 1 := (by omega); have k1_x1 : w.heap.size + 1 < x1.w.heap.size := (by omega); have j1_x1 : w.heap.size + 1 < x1.w.heap.size + 1 := (by omega)
    (go_wp2_with fail); refine calls_after2 (HV.out _ (by (repeat' (first | (with_reducible exact Below.refl _ _) | (with_reducible assumption) | (with_reducible refine Below.alloc ?_ ?_ _) | (with_reducible refine Below.drew ?_) | (with_reducible refine below_drewN ?_ _) | (with_reducible refine Below.setCell ?_ ?_ _) | (with_reducible refine below_after ?_ ?_ _) | (with_reducible refine below_set ?_) | (with_reducible refine After.size_le _ ?_) | (with_reducible refine size_alloc_le ?_) | (with_reducible refine size_set_le ?_) | (with_reducible refine size_drewN_le ?_) | go_size)))) ?_; intro x2; have hz_x2 := x2.out.size; (try simp only [World.size_alloc] at hz_x2); (try simp only [World.size_setCell] at hz_x2); have k0_x2 : w.heap.size < x2.w.heap.size := (by omega); have j0_x2 : w.heap.size < x2.w.heap.size + 1 := (by omega); have k1_x2 : w.heap.size + 1 < x2.w.heap.size := (by omega); have j1_x2 : w.heap.size + 1 < x2.w.heap.size + 1 := (by omega)
    go_wp2
    go_ret
    exact ⟨rfl, by (repeat' (first | (with_reducible exact Below.refl _ _) | (with_reducible assumption) | (with_reducible refine Below.alloc ?_ ?_ _) | (with_reducible refine Below.drew ?_) | (with_reducible refine below_drewN ?_ _) | (with_reducible refine Below.setCell ?_ ?_ _) | (with_reducible refine below_after ?_ ?_ _) | (with_reducible refine below_set ?_) | (with_reducible refine After.size_le _ ?_) | (with_reducible refine size_alloc_le ?_) | (with_reducible refine size_set_le ?_) | (with_reducible refine size_drewN_le ?_) | go_size))⟩
set_option maxRecDepth 1000000 in
set_option maxHeartbeats 1000000 in
theorem pv_ok (b off cap : Nat) (x : Int × Int × Int) (ps : List (Int × Int)) (t : Tri) (w : World) (hb : b < w.heap.size)
    (hc : ∀ i, i < ps.length → w.cell? ⟨b, off + i * 2, none⟩ = some (.int .i64 (ps.getD i (0, 0)).1) ∧ w.cell? ⟨b, off + i * 2 + 1, none⟩ = some (.int .i64 (ps.getD i (0, 0)).2))
    (hL : GoodLine x.1 x.2.1 x.2.2) (hG : GoodPts ps) (h1 : t.1 < t.2.1) (h2 : t.2.1 < t.2.2) (h3 : t.2.2 < ps.length) :
    Calls Try.prog 47 #[.agg #[.int .i64 x.1, .int .i64 x.2.1, .int .i64 x.2.2], .slice (some ⟨b, off, none⟩) ps.length cap, triV t] w fun e w' => e = .returned (.bool (prfB x ps (woF x ps) t)) ∧ Below w.heap.size w w' := by
  have hl40 := hG.2.1
  have hA := goodPts_at hG
  have hk := worI_lt (x := x) hG.1
  have HL := Lib.hid (fun w => validLine_t x.1 x.2.1 x.2.2 w hL)
  have HV : Hid (∀ W, Below w.heap.size w W → _) := fun W hW => validPoints_t b off cap ps W (Nat.lt_of_lt_of_le hb hW.size) (by omega) (cells_on hb hc hW) hG
  have HF : Hid (∀ W, Below w.heap.size w W → _) := fun W hW => farthest_any b off cap x ps W (Nat.lt_of_lt_of_le hb hW.size) (by omega) (cells_on hb hc hW) hL.1 hA hG.1
  have HP : Hid (∀ W, Below w.heap.size w W → _) := fun W hW => proves_any b off cap x ps t (woF x ps) W (Nat.lt_of_lt_of_le hb hW.size) (cells_on hb hc hW) hL.1 hA (by omega) (by omega) h3
  have HA := Lib.hid (fun w => above_any x.1 x.2.1 x.2.2 (ptAt ps (worI x ps)).1 (ptAt ps (worI x ps)).2 w hL.1 (hA _ hk))
  obtain ⟨c1, c2⟩ := hc _ hk
  have bm := offV_bd hL.1 (hA _ hk)
  change _ ≤ offV x.1 x.2.1 x.2.2 (ptAt ps (worI x ps)).1 (ptAt ps (worI x ps)).2 ∧ offV x.1 x.2.1 x.2.2 (ptAt ps (worI x ps)).1 (ptAt ps (worI x ps)).2 ≤ _ at bm
  have HW : Hid (woF x ps = (offV x.1 x.2.1 x.2.2 (ptAt ps (worI x ps)).1 (ptAt ps (worI x ps)).2).natAbs) := rfl
  rw [HW.out] at HP ⊢
  obtain ⟨i, j, k⟩ := t
  unfold triV at *
  clear HW hA hL hG hc
  dsimp only at *
  generalize hB : prfB x ps _ (i, j, k) = B at *
  clear hB
  generalize offV x.1 x.2.1 x.2.2 (ptAt ps (worI x ps)).1 (ptAt ps (worI x ps)).2 = P at *
  unfold ptAt at *
  generalize worI x ps = l at *
  generalize ps.getD l (0, 0) = p at *
  obtain ⟨p1, p2⟩ := p
  obtain ⟨xa, xb, xd⟩ := x
  dsimp only at *
  obtain ⟨b1, b1'⟩ := bm
  have i1 : (i : Int) < (j : Int) := by omega
  have i2 : (j : Int) < (k : Int) := by omega
  have i3 : (k : Int) < (ps.length : Int) := by omega
  have i4 : (l : Int) < (ps.length : Int) := by omega
  have hb1 : b < w.heap.size + 1 := by omega
  have hb2 : b < w.heap.size + 2 := by omega
  go_enter Try.func47, Try.ntmps47
  (go_wp2_with fail); refine calls_after (HL.out _) ?_; intro x1; have hz_x1 := x1.out.size; (try simp only [World.size_alloc] at hz_x1); (try simp only [World.size_setCell] at hz_x1); have k0_x1 : b < x1.w.heap.size := (by omega); have j0_x1 : b < x1.w.heap.size + 1 := (by omega); have k1_x1 : w.heap.size < x1.w.heap.size := (by omega); have j1_x1 : w.heap.size < x1.w.heap.size + 1 := (by omega); have k2_x1 : w.heap.size + 1 < x1.w.heap.size := (by omega); have j2_x1 : w.heap.size + 1 < x1.w.heap.size + 1 := (by omega)
  (go_wp2_with fail); refine calls_after2 (HV.out _ (by (repeat' (first | (with_reducible exact Below.refl _ _) | (with_reducible assumption) | (with_reducible refine Below.alloc ?_ ?_ _) | (with_reducible refine Below.drew ?_) | (with_reducible refine below_drewN ?_ _) | (with_reducible refine Below.setCell ?_ ?_ _) | (with_reducible refine below_after ?_ ?_ _) | (with_reducible refine below_set ?_) | (with_reducible refine After.size_le _ ?_) | (with_reducible refine size_alloc_le ?_) | (with_reducible refine size_set_le ?_) | (with_reducible refine size_drewN_le ?_) | go_size)))) ?_; intro x2; have hz_x2 := x2.out.size; (try simp only [World.size_alloc] at hz_x2); (try simp only [World.size_setCell] at hz_x2); have k0_x2 : b < x2.w.heap.size := (by omega); have j0_x2 : b < x2.w.heap.size + 1 := (by omega); have k1_x2 : w.heap.size < x2.w.heap.size := (by omega); have j1_x2 : w.heap.size < x2.w.heap.size + 1 := (by omega); have k2_x2 : w.heap.size + 1 < x2.w.heap.size := (by omega); have j2_x2 : w.heap.size + 1 < x2.w.heap.size + 1 := (by omega)
  clear HL HV
  go_wp2_with fail
  refine wp_region_after (by kernel_rfl) (by kernel_rfl) ?_; (repeat (first | go_big_quiet_step ((first | (go_at_call 77; refine quiet_after (HF.out _ ?_); (repeat' (first | (with_reducible exact Below.refl _ _) | (with_reducible assumption) | (with_reducible refine Below.alloc ?_ ?_ _) | (with_reducible refine Below.drew ?_) | (with_reducible refine below_drewN ?_ _) | (with_reducible refine Below.setCell ?_ ?_ _) | (with_reducible refine below_after ?_ ?_ _) | (with_reducible refine below_set ?_) | (with_reducible refine After.size_le _ ?_) | (with_reducible refine size_alloc_le ?_) | (with_reducible refine size_set_le ?_) | (with_reducible refine size_drewN_le ?_) | go_size))) | (go_at_call 74; exact quiet_after (HA.out _)) | (go_at_call 73; exact quiet_after_same (abs_any _ _ (by omega) (by omega))) | (go_at_call 88; refine quiet_after (HP.out _ ?_); (repeat' (first | (with_reducible exact Below.refl _ _) | (with_reducible assumption) | (with_reducible refine Below.alloc ?_ ?_ _) | (with_reducible refine Below.drew ?_) | (with_reducible refine below_drewN ?_ _) | (with_reducible refine Below.setCell ?_ ?_ _) | (with_reducible refine below_after ?_ ?_ _) | (with_reducible refine below_set ?_) | (with_reducible refine After.size_le _ ?_) | (with_reducible refine size_alloc_le ?_) | (with_reducible refine size_set_le ?_) | (with_reducible refine size_drewN_le ?_) | go_size))))) | (refine wpQuiet_step (fun K hK => ?_); go_simp; first | (refine hK _ ?_; clear hK K) | (apply Exists.intro; refine ⟨fun x => ?_, hK _ ?_⟩; (first | (go_at_call 77; refine quiet_after (HF.out _ ?_); (repeat' (first | (with_reducible exact Below.refl _ _) | (with_reducible assumption) | (with_reducible refine Below.alloc ?_ ?_ _) | (with_reducible refine Below.drew ?_) | (with_reducible refine below_drewN ?_ _) | (with_reducible refine Below.setCell ?_ ?_ _) | (with_reducible refine below_after ?_ ?_ _) | (with_reducible refine below_set ?_) | (with_reducible refine After.size_le _ ?_) | (with_reducible refine size_alloc_le ?_) | (with_reducible refine size_set_le ?_) | (with_reducible refine size_drewN_le ?_) | go_size))) | (go_at_call 74; exact quiet_after (HA.out _)) | (go_at_call 73; exact quiet_after_same (abs_any _ _ (by omega) (by omega))) | (go_at_call 88; refine quiet_after (HP.out _ ?_); (repeat' (first | (with_reducible exact Below.refl _ _) | (with_reducible assumption) | (with_reducible refine Below.alloc ?_ ?_ _) | (with_reducible refine Below.drew ?_) | (with_reducible refine below_drewN ?_ _) | (with_reducible refine Below.setCell ?_ ?_ _) | (with_reducible refine below_after ?_ ?_ _) | (with_reducible refine below_set ?_) | (with_reducible refine After.size_le _ ?_) | (with_reducible refine size_alloc_le ?_) | (with_reducible refine size_set_le ?_) | (with_reducible refine size_drewN_le ?_) | go_size)))); clear hK K)))); refine wpQuiet_nil ?_
  intro x3
  go_wp2
  go_ret
  exact ⟨rfl, by (repeat' (first | (with_reducible exact Below.refl _ _) | (with_reducible assumption) | (with_reducible refine Below.alloc ?_ ?_ _) | (with_reducible refine Below.drew ?_) | (with_reducible refine below_drewN ?_ _) | (with_reducible refine Below.setCell ?_ ?_ _) | (with_reducible refine below_after ?_ ?_ _) | (with_reducible refine below_set ?_) | (with_reducible refine After.size_le _ ?_) | (with_reducible refine size_alloc_le ?_) | (with_reducible refine size_set_le ?_) | (with_reducible refine size_drewN_le ?_) | go_size))⟩

/-! ### The reference -/
set_option maxRecDepth 100000 in
set_option maxHeartbeats 400000 in
theorem rpv_line (a b d i j k : Int) (v : Value) (w : World) (h : ¬ GoodLine a b d) :
    Calls Try.prog 48 #[.agg #[.int .i64 a, .int .i64 b, .int .i64 d], v, .agg #[.int .i64 i, .int .i64 j, .int .i64 k]] w fun e w' => e = .returned (.bool false) ∧ Below w.heap.size w w' := by
  have HL := Lib.hid (fun w => rvalidLine_f a b d w h)
  clear h
  go_enter Try.func48, Try.ntmps48
  (go_wp2_with fail); refine calls_after (HL.out _) ?_; intro x1
  go_wp2
  go_ret
  exact ⟨rfl, by (repeat' (first | (with_reducible exact Below.refl _ _) | (with_reducible assumption) | (with_reducible refine Below.alloc ?_ ?_ _) | (with_reducible refine Below.drew ?_) | (with_reducible refine below_drewN ?_ _) | (with_reducible refine Below.setCell ?_ ?_ _) | (with_reducible refine below_after ?_ ?_ _) | (with_reducible refine below_set ?_) | (with_reducible refine After.size_le _ ?_) | (with_reducible refine size_alloc_le ?_) | (with_reducible refine size_set_le ?_) | (with_reducible refine size_drewN_le ?_) | go_size))⟩
set_option maxRecDepth 100000 in
set_option maxHeartbeats 400000 in
theorem rpv_pts (a b d i j k : Int) (v : Value) (w : World) (h : GoodLine a b d) (hv : RptsSay w v false) :
    Calls Try.prog 48 #[.agg #[.int .i64 a, .int .i64 b, .int .i64 d], v, .agg #[.int .i64 i, .int .i64 j, .int .i64 k]] w fun e w' => e = .returned (.bool false) ∧ Below w.heap.size w w' := by
  have HL := Lib.hid (fun w => rvalidLine_t a b d w h)
  have HV : Hid (∀ W, Below w.heap.size w W → _) := hv
  clear h hv
  go_enter Try.func48, Try.ntmps48
  (go_wp2_with fail); refine calls_after (HL.out _) ?_; intro x1
  (go_wp2_with fail); refine calls_after2 (HV.out _ (by (repeat' (first | (with_reducible exact Below.refl _ _) | (with_reducible assumption) | (with_reducible refine Below.alloc ?_ ?_ _) | (with_reducible refine Below.drew ?_) | (with_reducible refine below_drewN ?_ _) | (with_reducible refine Below.setCell ?_ ?_ _) | (with_reducible refine below_after ?_ ?_ _) | (with_reducible refine below_set ?_) | (with_reducible refine After.size_le _ ?_) | (with_reducible refine size_alloc_le ?_) | (with_reducible refine size_set_le ?_) | (with_reducible refine size_drewN_le ?_) | go_size)))) ?_; intro x2
  go_wp2
  go_ret
  exact ⟨rfl, by (repeat' (first | (with_reducible exact Below.refl _ _) | (with_reducible assumption) | (with_reducible refine Below.alloc ?_ ?_ _) | (with_reducible refine Below.drew ?_) | (with_reducible refine below_drewN ?_ _) | (with_reducible refine Below.setCell ?_ ?_ _) | (with_reducible refine below_after ?_ ?_ _) | (with_reducible refine below_set ?_) | (with_reducible refine After.size_le _ ?_) | (with_reducible refine size_alloc_le ?_) | (with_reducible refine size_set_le ?_) | (with_reducible refine size_drewN_le ?_) | go_size))⟩
set_option maxRecDepth 100000 in
set_option maxHeartbeats 1000000 in
theorem rpv_idx (a b d i j k : Int) (ad : Option Addr) (n cap : Nat) (w : World) (h : GoodLine a b d) (hv : RptsSay w (.slice ad n cap) true) (hx : ¬ IdxOk n i j k) :
    Calls Try.prog 48 #[.agg #[.int .i64 a, .int .i64 b, .int .i64 d], .slice ad n cap, .agg #[.int .i64 i, .int .i64 j, .int .i64 k]] w fun e w' => e = .returned (.bool false) ∧ Below w.heap.size w w' := by
  have HL := Lib.hid (fun w => rvalidLine_t a b d w h)
  have HV : Hid (∀ W, Below w.heap.size w W → _) := hv
  clear h hv
  unfold IdxOk at hx
  rcases (show i < 0 ∨ (0 ≤ i ∧ j ≤ i) ∨ (0 ≤ i ∧ i < j ∧ k ≤ j) ∨ (0 ≤ i ∧ i < j ∧ j < k ∧ (n : Int) ≤ k) by omega) with h1 | h1 | h1 | h1
  all_goals
    clear hx
    try obtain ⟨h1, h2⟩ := h1
    try obtain ⟨h2, h3⟩ := h2
    try obtain ⟨h3, h4⟩ := h3
    go_enter Try.func48, Try.ntmps48
    (go_wp2_with fail); refine calls_after (HL.out _) ?_; intro x1; have hz_x1 := x1.out.size; (try simp only [World.size_alloc] at hz_x1); (try simp only [World.size_setCell] at hz_x1); have k0_x1 : w.heap.size < x1.w.heap.size := (by omega); have j0_x1 : w.heap.size < x1.w.heap.size + 1 := (by omega); have k1_x1 : w.heap.size + 1 < x1.w.heap.size := (by omega); have j1_x1 : w.heap.size + 1 < x1.w.heap.size + 1 := (by omega)
    (go_wp2_with fail); refine calls_after2 (HV.out _ (by (repeat' (first | (with_reducible exact Below.refl _ _) | (with_reducible assumption) | (with_reducible refine Below.alloc ?_ ?_ _) | (with_reducible refine Below.drew ?_) | (with_reducible refine below_drewN ?_ _) | (with_reducible refine Below.setCell ?_ ?_ _) | (with_reducible refine below_after ?_ ?_ _) | (with_reducible refine below_set ?_) | (with_reducible refine After.size_le _ ?_) | (with_reducible refine size_alloc_le ?_) | (with_reducible refine size_set_le ?_) | (with_reducible refine size_drewN_le ?_) | go_size)))) ?_; intro x2; have hz_x2 := x2.out.size; (try simp only [World.size_alloc] at hz_x2); (try simp only [World.size_setCell] at hz_x2); have k0_x2 : w.heap.size < x2.w.heap.size := (by omega); have j0_x2 : w.heap.size < x2.w.heap.size + 1 := (by omega); have k1_x2 : w.heap.size + 1 < x2.w.heap.size := (by omega); have j1_x2 : w.heap.size + 1 < x2.w.heap.size + 1 := (by omega)
    go_wp2
    go_ret
    exact ⟨rfl, by (repeat' (first | (with_reducible exact Below.refl _ _) | (with_reducible assumption) | (with_reducible refine Below.alloc ?_ ?_ _) | (with_reducible refine Below.drew ?_) | (with_reducible refine below_drewN ?_ _) | (with_reducible refine Below.setCell ?_ ?_ _) | (with_reducible refine below_after ?_ ?_ _) | (with_reducible refine below_set ?_) | (with_reducible refine After.size_le _ ?_) | (with_reducible refine size_alloc_le ?_) | (with_reducible refine size_set_le ?_) | (with_reducible refine size_drewN_le ?_) | go_size))⟩
set_option maxRecDepth 1000000 in
set_option maxHeartbeats 1000000 in
theorem rpv_ok (b off cap : Nat) (x : Int × Int × Int) (ps : List (Int × Int)) (t : Tri) (w : World) (hb : b < w.heap.size)
    (hc : ∀ i, i < ps.length → w.cell? ⟨b, off + i * 2, none⟩ = some (.int .i64 (ps.getD i (0, 0)).1) ∧ w.cell? ⟨b, off + i * 2 + 1, none⟩ = some (.int .i64 (ps.getD i (0, 0)).2))
    (hL : GoodLine x.1 x.2.1 x.2.2) (hG : GoodPts ps) (h1 : t.1 < t.2.1) (h2 : t.2.1 < t.2.2) (h3 : t.2.2 < ps.length) :
    Calls Try.prog 48 #[.agg #[.int .i64 x.1, .int .i64 x.2.1, .int .i64 x.2.2], .slice (some ⟨b, off, none⟩) ps.length cap, triV t] w fun e w' => e = .returned (.bool (prfB x ps (woF x ps) t)) ∧ Below w.heap.size w w' := by
  have hl40 := hG.2.1
  have hA := goodPts_at hG
  have HL := Lib.hid (fun w => rvalidLine_t x.1 x.2.1 x.2.2 w hL)
  have HV : Hid (∀ W, Below w.heap.size w W → _) := fun W hW => rvalidPoints_t b off cap ps W (Nat.lt_of_lt_of_le hb hW.size) (by omega) (cells_on hb hc hW) hG
  have HP : Hid (∀ W, Below w.heap.size w W → _) := fun W hW => rproves_any b off cap x ps t W (Nat.lt_of_lt_of_le hb hW.size) (by omega) (cells_on hb hc hW) hL.1 hA (by omega) (by omega) h3
  obtain ⟨i, j, k⟩ := t
  unfold triV at *
  clear hA hL hG hc
  dsimp only at *
  generalize prfB x ps _ (i, j, k) = B at *
  obtain ⟨xa, xb, xd⟩ := x
  dsimp only at *
  have i1 : (i : Int) < (j : Int) := by omega
  have i2 : (j : Int) < (k : Int) := by omega
  have i3 : (k : Int) < (ps.length : Int) := by omega
  go_enter Try.func48, Try.ntmps48
  (go_wp2_with fail); refine calls_after (HL.out _) ?_; intro x1; have hz_x1 := x1.out.size; (try simp only [World.size_alloc] at hz_x1); (try simp only [World.size_setCell] at hz_x1); have k0_x1 : b < x1.w.heap.size := (by omega); have j0_x1 : b < x1.w.heap.size + 1 := (by omega); have k1_x1 : w.heap.size < x1.w.heap.size := (by omega); have j1_x1 : w.heap.size < x1.w.heap.size + 1 := (by omega); have k2_x1 : w.heap.size + 1 < x1.w.heap.size := (by omega); have j2_x1 : w.heap.size + 1 < x1.w.heap.size + 1 := (by omega)
  (go_wp2_with fail); refine calls_after2 (HV.out _ (by (repeat' (first | (with_reducible exact Below.refl _ _) | (with_reducible assumption) | (with_reducible refine Below.alloc ?_ ?_ _) | (with_reducible refine Below.drew ?_) | (with_reducible refine below_drewN ?_ _) | (with_reducible refine Below.setCell ?_ ?_ _) | (with_reducible refine below_after ?_ ?_ _) | (with_reducible refine below_set ?_) | (with_reducible refine After.size_le _ ?_) | (with_reducible refine size_alloc_le ?_) | (with_reducible refine size_set_le ?_) | (with_reducible refine size_drewN_le ?_) | go_size)))) ?_; intro x2; have hz_x2 := x2.out.size; (try simp only [World.size_alloc] at hz_x2); (try simp only [World.size_setCell] at hz_x2); have k0_x2 : b < x2.w.heap.size := (by omega); have j0_x2 : b < x2.w.heap.size + 1 := (by omega); have k1_x2 : w.heap.size < x2.w.heap.size := (by omega); have j1_x2 : w.heap.size < x2.w.heap.size + 1 := (by omega); have k2_x2 : w.heap.size + 1 < x2.w.heap.size := (by omega); have j2_x2 : w.heap.size + 1 < x2.w.heap.size + 1 := (by omega)
  clear HL HV
  (go_wp2_with fail); refine calls_after2 (HP.out _ (by (repeat' (first | (with_reducible exact Below.refl _ _) | (with_reducible assumption) | (with_reducible refine Below.alloc ?_ ?_ _) | (with_reducible refine Below.drew ?_) | (with_reducible refine below_drewN ?_ _) | (with_reducible refine Below.setCell ?_ ?_ _) | (with_reducible refine below_after ?_ ?_ _) | (with_reducible refine below_set ?_) | (with_reducible refine After.size_le _ ?_) | (with_reducible refine size_alloc_le ?_) | (with_reducible refine size_set_le ?_) | (with_reducible refine size_drewN_le ?_) | go_size)))) ?_; intro x3
  go_wp2
  go_ret
  exact ⟨rfl, by (repeat' (first | (with_reducible exact Below.refl _ _) | (with_reducible assumption) | (with_reducible refine Below.alloc ?_ ?_ _) | (with_reducible refine Below.drew ?_) | (with_reducible refine below_drewN ?_ _) | (with_reducible refine Below.setCell ?_ ?_ _) | (with_reducible refine below_after ?_ ?_ _) | (with_reducible refine below_set ?_) | (with_reducible refine After.size_le _ ?_) | (with_reducible refine size_alloc_le ?_) | (with_reducible refine size_set_le ?_) | (with_reducible refine size_drewN_le ?_) | go_size))⟩
end Go.Proofs.Ytdhobjflfhijjaa
