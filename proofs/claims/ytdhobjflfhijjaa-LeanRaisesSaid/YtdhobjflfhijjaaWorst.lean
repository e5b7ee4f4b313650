/- The farthest point's index and distance, in both programs; the greatest distance of the nearest line. -/
import Derived.Test.YtdhobjflfhijjaaFarth
import Derived.Test.YtdhobjflfhijjaaRworst
namespace Go.Proofs.Ytdhobjflfhijjaa
open Go.RowKit
attribute [local go_sem] After.cell After.frozen After.lt After.le After.ne After.ne' After.set_eq After.size_set After.lt_add

/-- What both tests of points say of a slice's value, in every world behind w. -/
def PtsSay (w : World) (v : Value) (b : Bool) : Prop := ∀ W, Below w.heap.size w W → Calls Try.prog 38 #[v] W fun e w' => e = .returned (.bool b) ∧ Below W.heap.size W w'
def RptsSay (w : World) (v : Value) (b : Bool) : Prop := ∀ W, Below w.heap.size w W → Calls Try.prog 39 #[v] W fun e w' => e = .returned (.bool b) ∧ Below W.heap.size W w'

def woI (x : Int × Int × Int) (ps : List (Int × Int)) : Int := if GoodLine x.1 x.2.1 x.2.2 ∧ GoodPts ps then worI x ps else 0
def woF (x : Int × Int × Int) (ps : List (Int × Int)) : Int := farV x (ptAt ps (worI x ps))
def woN (x : Int × Int × Int) (ps : List (Int × Int)) : Int := if GoodLine x.1 x.2.1 x.2.2 ∧ GoodPts ps then ratN (woF x ps) x.2.2 else 0
def woD (x : Int × Int × Int) (ps : List (Int × Int)) : Int := if GoodLine x.1 x.2.1 x.2.2 ∧ GoodPts ps then ratD (woF x ps) x.2.2 else 0
def woE (x : Int × Int × Int) (ps : List (Int × Int)) : Int := if GoodLine x.1 x.2.1 x.2.2 ∧ GoodPts ps then 0 else 1

set_option maxRecDepth 100000 in
set_option maxHeartbeats 400000 in
theorem worst_line (a b d : Int) (v : Value) (w : World) (h : ¬ GoodLine a b d) :
    Calls Try.prog 36 #[.agg #[.int .i64 a, .int .i64 b, .int .i64 d], v] w fun e w' => e = .returned (.tuple #[.int .i64 0, .agg #[.int .i64 0, .int .i64 0], .int .i64 1]) ∧ Below w.heap.size w w' := by
  have HL := Lib.hid (fun w => validLine_f a b d w h)
  clear h
  go_enter Try.func36, Try.ntmps36
  go_wp2_with fail
  refine calls_after (HL.out _) ?_
  intro x1
  go_wp2_with fail
  go_returns
  exact ⟨rfl, by (repeat' (first | (with_reducible exact Below.refl _ _) | (with_reducible assumption) | (with_reducible refine Below.alloc ?_ ?_ _) | (with_reducible refine Below.drew ?_) | (with_reducible refine below_drewN ?_ _) | (with_reducible refine Below.setCell ?_ ?_ _) | (with_reducible refine below_after ?_ ?_ _) | (with_reducible refine below_set ?_) | (with_reducible refine After.size_le _ ?_) | (with_reducible refine size_alloc_le ?_) | (with_reducible refine size_set_le ?_) | (with_reducible refine size_drewN_le ?_) | go_size))⟩
set_option maxRecDepth 100000 in
set_option maxHeartbeats 400000 in
theorem worst_pts (a b d : Int) (v : Value) (w : World) (h : GoodLine a b d) (hv : PtsSay w v false) :
    Calls Try.prog 36 #[.agg #[.int .i64 a, .int .i64 b, .int .i64 d], v] w fun e w' => e = .returned (.tuple #[.int .i64 0, .agg #[.int .i64 0, .int .i64 0], .int .i64 1]) ∧ Below w.heap.size w w' := by
  have HL := Lib.hid (fun w => validLine_t a b d w h)
  have HV : Hid (∀ W, Below w.heap.size w W → _) := hv
  clear h hv
  go_enter Try.func36, Try.ntmps36
  go_wp2_with fail
  refine calls_after (HL.out _) ?_
  intro x1
  go_wp2_with fail
  refine calls_after2 (HV.out _ (by (repeat' (first | (with_reducible exact Below.refl _ _) | (with_reducible assumption) | (with_reducible refine Below.alloc ?_ ?_ _) | (with_reducible refine Below.drew ?_) | (with_reducible refine below_drewN ?_ _) | (with_reducible refine Below.setCell ?_ ?_ _) | (with_reducible refine below_after ?_ ?_ _) | (with_reducible refine below_set ?_) | (with_reducible refine After.size_le _ ?_) | (with_reducible refine size_alloc_le ?_) | (with_reducible refine size_set_le ?_) | (with_reducible refine size_drewN_le ?_) | go_size)))) ?_
  intro x2
  go_wp2_with fail
  go_returns
  exact ⟨rfl, by (repeat' (first | (with_reducible exact Below.refl _ _) | (with_reducible assumption) | (with_reducible refine Below.alloc ?_ ?_ _) | (with_reducible refine Below.drew ?_) | (with_reducible refine below_drewN ?_ _) | (with_reducible refine Below.setCell ?_ ?_ _) | (with_reducible refine below_after ?_ ?_ _) | (with_reducible refine below_set ?_) | (with_reducible refine After.size_le _ ?_) | (with_reducible refine size_alloc_le ?_) | (with_reducible refine size_set_le ?_) | (with_reducible refine size_drewN_le ?_) | go_size))⟩
set_option maxRecDepth 100000 in
set_option maxHeartbeats 400000 in
theorem rworst_line (a b d : Int) (v : Value) (w : World) (h : ¬ GoodLine a b d) :
    Calls Try.prog 37 #[.agg #[.int .i64 a, .int .i64 b, .int .i64 d], v] w fun e w' => e = .returned (.tuple #[.int .i64 0, .agg #[.int .i64 0, .int .i64 0], .int .i64 1]) ∧ Below w.heap.size w w' := by
  have HL := Lib.hid (fun w => rvalidLine_f a b d w h)
  clear h
  go_enter Try.func37, Try.ntmps37
  go_wp2_with fail
  refine calls_after (HL.out _) ?_
  intro x1
  go_wp2_with fail
  go_returns
  exact ⟨rfl, by (repeat' (first | (with_reducible exact Below.refl _ _) | (with_reducible assumption) | (with_reducible refine Below.alloc ?_ ?_ _) | (with_reducible refine Below.drew ?_) | (with_reducible refine below_drewN ?_ _) | (with_reducible refine Below.setCell ?_ ?_ _) | (with_reducible refine below_after ?_ ?_ _) | (with_reducible refine below_set ?_) | (with_reducible refine After.size_le _ ?_) | (with_reducible refine size_alloc_le ?_) | (with_reducible refine size_set_le ?_) | (with_reducible refine size_drewN_le ?_) | go_size))⟩
set_option maxRecDepth 100000 in
set_option maxHeartbeats 400000 in
theorem rworst_pts (a b d : Int) (v : Value) (w : World) (h : GoodLine a b d) (hv : RptsSay w v false) :
    Calls Try.prog 37 #[.agg #[.int .i64 a, .int .i64 b, .int .i64 d], v] w fun e w' => e = .returned (.tuple #[.int .i64 0, .agg #[.int .i64 0, .int .i64 0], .int .i64 1]) ∧ Below w.heap.size w w' := by
  have HL := Lib.hid (fun w => rvalidLine_t a b d w h)
  have HV : Hid (∀ W, Below w.heap.size w W → _) := hv
  clear h hv
  go_enter Try.func37, Try.ntmps37
  go_wp2_with fail
  refine calls_after (HL.out _) ?_
  intro x1
  go_wp2_with fail
  refine calls_after2 (HV.out _ (by (repeat' (first | (with_reducible exact Below.refl _ _) | (with_reducible assumption) | (with_reducible refine Below.alloc ?_ ?_ _) | (with_reducible refine Below.drew ?_) | (with_reducible refine below_drewN ?_ _) | (with_reducible refine Below.setCell ?_ ?_ _) | (with_reducible refine below_after ?_ ?_ _) | (with_reducible refine below_set ?_) | (with_reducible refine After.size_le _ ?_) | (with_reducible refine size_alloc_le ?_) | (with_reducible refine size_set_le ?_) | (with_reducible refine size_drewN_le ?_) | go_size)))) ?_
  intro x2
  go_wp2_with fail
  go_returns
  exact ⟨rfl, by (repeat' (first | (with_reducible exact Below.refl _ _) | (with_reducible assumption) | (with_reducible refine Below.alloc ?_ ?_ _) | (with_reducible refine Below.drew ?_) | (with_reducible refine below_drewN ?_ _) | (with_reducible refine Below.setCell ?_ ?_ _) | (with_reducible refine below_after ?_ ?_ _) | (with_reducible refine below_set ?_) | (with_reducible refine After.size_le _ ?_) | (with_reducible refine size_alloc_le ?_) | (with_reducible refine size_set_le ?_) | (with_reducible refine size_drewN_le ?_) | go_size))⟩

theorem worI_lt {x : Int × Int × Int} {ps : List (Int × Int)} (h : 0 < ps.length) : worI x ps < ps.length := bestTo_lt _ _ h
theorem inBd_d {a b d : Int} (h : InBd a b d) : 1 ≤ d ∧ d ≤ 1000000000000000000 := by unfold InBd at h; omega

set_option maxRecDepth 100000 in
set_option maxHeartbeats 1000000 in
theorem worst_ok (b off cap : Nat) (x : Int × Int × Int) (ps : List (Int × Int)) (w : World) (hb : b < w.heap.size)
    (hc : ∀ i, i < ps.length → w.cell? ⟨b, off + i * 2, none⟩ = some (.int .i64 (ps.getD i (0, 0)).1) ∧ w.cell? ⟨b, off + i * 2 + 1, none⟩ = some (.int .i64 (ps.getD i (0, 0)).2))
    (hL : GoodLine x.1 x.2.1 x.2.2) (hG : GoodPts ps) :
    Calls Try.prog 36 #[.agg #[.int .i64 x.1, .int .i64 x.2.1, .int .i64 x.2.2], .slice (some ⟨b, off, none⟩) ps.length cap] w fun e w' => e = .returned (.tuple #[.int .i64 (worI x ps), .agg #[.int .i64 (ratN (woF x ps) x.2.2), .int .i64 (ratD (woF x ps) x.2.2)], .int .i64 0]) ∧ Below w.heap.size w w' := by
  have hl40 := hG.2.1
  have hA := goodPts_at hG
  have hk := worI_lt (x := x) hG.1
  have HL := Lib.hid (fun w => validLine_t x.1 x.2.1 x.2.2 w hL)
  have HV : Hid (∀ W, Below w.heap.size w W → _) := fun W hW => validPoints_t b off cap ps W (Nat.lt_of_lt_of_le hb hW.size) (by omega) (cells_on hb hc hW) hG
  have HF : Hid (∀ W, Below w.heap.size w W → _) := fun W hW => farthest_any b off cap x ps W (Nat.lt_of_lt_of_le hb hW.size) (by omega) (cells_on hb hc hW) hL.1 hA hG.1
  obtain ⟨c1, c2⟩ := hc _ hk
  have HA := Lib.hid (fun w => above_any x.1 x.2.1 x.2.2 (ptAt ps (worI x ps)).1 (ptAt ps (worI x ps)).2 w hL.1 (hA _ hk))
  have hbd := offV_bd hL.1 (hA _ hk)
  obtain ⟨hd1, hd2⟩ := inBd_d hL.1
  have HW : Hid (woF x ps = (offV x.1 x.2.1 x.2.2 (ptAt ps (worI x ps)).1 (ptAt ps (worI x ps)).2).natAbs) := rfl
  rw [HW.out]
  clear HW hc hA hL hG
  change _ ≤ offV x.1 x.2.1 x.2.2 (ptAt ps (worI x ps)).1 (ptAt ps (worI x ps)).2 ∧ offV x.1 x.2.1 x.2.2 (ptAt ps (worI x ps)).1 (ptAt ps (worI x ps)).2 ≤ _ at hbd
  generalize offV x.1 x.2.1 x.2.2 (ptAt ps (worI x ps)).1 (ptAt ps (worI x ps)).2 = P at *
  unfold ptAt at *
  generalize worI x ps = k at *
  generalize ps.getD k (0, 0) = p at *
  obtain ⟨p1, p2⟩ := p
  obtain ⟨xa, xb, xd⟩ := x
  dsimp only at *
  obtain ⟨hP, hP'⟩ := hbd
  have hk' : (k : Int) < (ps.length : Int) := by omega
  have hb1 : b < w.heap.size + 1 := by omega
  have hb2 : b < w.heap.size + 2 := by omega
  go_enter Try.func36, Try.ntmps36
  go_wp2_with fail
  refine calls_after (HL.out _) ?_
  intro x1
  clear HL
  have hz_x1 := x1.out.size; (try simp only [World.size_alloc] at hz_x1); (try simp only [World.size_setCell] at hz_x1); have k0_x1 : b < x1.w.heap.size := (by omega); have j0_x1 : b < x1.w.heap.size + 1 := (by omega); have k1_x1 : w.heap.size < x1.w.heap.size := (by omega); have j1_x1 : w.heap.size < x1.w.heap.size + 1 := (by omega); have k2_x1 : w.heap.size + 1 < x1.w.heap.size := (by omega); have j2_x1 : w.heap.size + 1 < x1.w.heap.size + 1 := (by omega)
  go_wp2_with fail
  refine calls_after2 (HV.out _ (by (repeat' (first | (with_reducible exact Below.refl _ _) | (with_reducible assumption) | (with_reducible refine Below.alloc ?_ ?_ _) | (with_reducible refine Below.drew ?_) | (with_reducible refine below_drewN ?_ _) | (with_reducible refine Below.setCell ?_ ?_ _) | (with_reducible refine below_after ?_ ?_ _) | (with_reducible refine below_set ?_) | (with_reducible refine After.size_le _ ?_) | (with_reducible refine size_alloc_le ?_) | (with_reducible refine size_set_le ?_) | (with_reducible refine size_drewN_le ?_) | go_size)))) ?_
  intro x2
  clear HV
  have hz_x2 := x2.out.size; (try simp only [World.size_alloc] at hz_x2); (try simp only [World.size_setCell] at hz_x2); have k0_x2 : b < x2.w.heap.size := (by omega); have j0_x2 : b < x2.w.heap.size + 1 := (by omega); have k1_x2 : w.heap.size < x2.w.heap.size := (by omega); have j1_x2 : w.heap.size < x2.w.heap.size + 1 := (by omega); have k2_x2 : w.heap.size + 1 < x2.w.heap.size := (by omega); have j2_x2 : w.heap.size + 1 < x2.w.heap.size + 1 := (by omega)
  go_wp2_with fail
  refine calls_after2 (HF.out _ (by (repeat' (first | (with_reducible exact Below.refl _ _) | (with_reducible assumption) | (with_reducible refine Below.alloc ?_ ?_ _) | (with_reducible refine Below.drew ?_) | (with_reducible refine below_drewN ?_ _) | (with_reducible refine Below.setCell ?_ ?_ _) | (with_reducible refine below_after ?_ ?_ _) | (with_reducible refine below_set ?_) | (with_reducible refine After.size_le _ ?_) | (with_reducible refine size_alloc_le ?_) | (with_reducible refine size_set_le ?_) | (with_reducible refine size_drewN_le ?_) | go_size)))) ?_
  intro x3
  clear HF
  have hz_x3 := x3.out.size; (try simp only [World.size_alloc] at hz_x3); (try simp only [World.size_setCell] at hz_x3); have k0_x3 : b < x3.w.heap.size := (by omega); have j0_x3 : b < x3.w.heap.size + 1 := (by omega); have k1_x3 : w.heap.size < x3.w.heap.size := (by omega); have j1_x3 : w.heap.size < x3.w.heap.size + 1 := (by omega); have k2_x3 : w.heap.size + 1 < x3.w.heap.size := (by omega); have j2_x3 : w.heap.size + 1 < x3.w.heap.size + 1 := (by omega)
  go_wp2_with fail
  refine wp_region_after_tail 11 (by kernel_rfl) (by kernel_rfl) ?_; simp only [List.take_succ_cons, List.take_zero, List.drop_succ_cons, List.drop_zero]; (repeat (first | go_big_quiet_step ((first | (go_at_call 74; exact quiet_after (HA.out _)) | (go_at_call 73; exact quiet_after_same (abs_any _ _ (by omega) (by omega))) | (go_at_call 69; exact quiet_after (ratio_any _ _ _ (by omega) (by omega) (by omega) (by omega))))) | (refine wpQuiet_step (fun K hK => ?_); go_simp; first | (refine hK _ ?_; clear hK K) | (apply Exists.intro; refine ⟨fun x => ?_, hK _ ?_⟩; (first | (go_at_call 74; exact quiet_after (HA.out _)) | (go_at_call 73; exact quiet_after_same (abs_any _ _ (by omega) (by omega))) | (go_at_call 69; exact quiet_after (ratio_any _ _ _ (by omega) (by omega) (by omega) (by omega)))); clear hK K)))); refine wpQuiet_nil ?_
  intro x4
  go_wp2_with fail
  go_returns
  exact ⟨rfl, by (repeat' (first | (with_reducible exact Below.refl _ _) | (with_reducible assumption) | (with_reducible refine Below.alloc ?_ ?_ _) | (with_reducible refine Below.drew ?_) | (with_reducible refine below_drewN ?_ _) | (with_reducible refine Below.setCell ?_ ?_ _) | (with_reducible refine below_after ?_ ?_ _) | (with_reducible refine below_set ?_) | (with_reducible refine After.size_le _ ?_) | (with_reducible refine size_alloc_le ?_) | (with_reducible refine size_set_le ?_) | (with_reducible refine size_drewN_le ?_) | go_size))⟩
end Go.Proofs.Ytdhobjflfhijjaa
