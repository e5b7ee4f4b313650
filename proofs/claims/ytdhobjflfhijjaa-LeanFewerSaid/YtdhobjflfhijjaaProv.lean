/- Whether three points prove a line: both programs. -/
import Derived.Test.YtdhobjflfhijjaaLeastb
namespace Go.Proofs.Ytdhobjflfhijjaa
open Go.RowKit
attribute [local go_sem] After.cell After.frozen After.lt After.le After.ne After.ne' After.set_eq After.size_set After.lt_add

/-- What a point is off a line. -/
def offP (x : Int × Int × Int) (p : Int × Int) : Int := offV x.1 x.2.1 x.2.2 p.1 p.2
/-- Three distances alternate, and are as great as m. -/
def prf3 (P Q R m : Int) : Bool := decide ((P.natAbs : Int) = m ∧ Q = -P ∧ R = P)
def prfB (x : Int × Int × Int) (ps : List (Int × Int)) (m : Int) (t : Tri) : Bool := prf3 (offP x (ptAt ps t.1)) (offP x (ptAt ps t.2.1)) (offP x (ptAt ps t.2.2)) m

set_option maxRecDepth 100000 in
set_option maxHeartbeats 1000000 in
theorem proves_any (b off cap : Nat) (x : Int × Int × Int) (ps : List (Int × Int)) (t : Tri) (m : Int) (w : World) (hb : b < w.heap.size)
    (hc : ∀ i, i < ps.length → w.cell? ⟨b, off + i * 2, none⟩ = some (.int .i64 (ps.getD i (0, 0)).1) ∧ w.cell? ⟨b, off + i * 2 + 1, none⟩ = some (.int .i64 (ps.getD i (0, 0)).2))
    (hL : InBd x.1 x.2.1 x.2.2) (hA : AllIn ps) (h1 : t.1 < ps.length) (h2 : t.2.1 < ps.length) (h3 : t.2.2 < ps.length) :
    Calls Try.prog 88 #[.agg #[.int .i64 x.1, .int .i64 x.2.1, .int .i64 x.2.2], .slice (some ⟨b, off, none⟩) ps.length cap, triV t, .int .i64 m] w fun e w' => e = .returned (.bool (prfB x ps m t)) ∧ Below w.heap.size w w' := by
  have HP := Lib.hid (fun w => above_any x.1 x.2.1 x.2.2 (ptAt ps t.1).1 (ptAt ps t.1).2 w hL (hA _ h1))
  have HQ := Lib.hid (fun w => above_any x.1 x.2.1 x.2.2 (ptAt ps t.2.1).1 (ptAt ps t.2.1).2 w hL (hA _ h2))
  have HR := Lib.hid (fun w => above_any x.1 x.2.1 x.2.2 (ptAt ps t.2.2).1 (ptAt ps t.2.2).2 w hL (hA _ h3))
  have b1 := offV_bd hL (hA _ h1)
  have b2 := offV_bd hL (hA _ h2)
  obtain ⟨c1, c1'⟩ := hc _ h1
  obtain ⟨c2, c2'⟩ := hc _ h2
  obtain ⟨c3, c3'⟩ := hc _ h3
  unfold prfB offP
  obtain ⟨i, j, k⟩ := t
  unfold triV
  change _ ≤ offV x.1 x.2.1 x.2.2 (ptAt ps i).1 (ptAt ps i).2 ∧ offV x.1 x.2.1 x.2.2 (ptAt ps i).1 (ptAt ps i).2 ≤ _ at b1
  change _ ≤ offV x.1 x.2.1 x.2.2 (ptAt ps j).1 (ptAt ps j).2 ∧ offV x.1 x.2.1 x.2.2 (ptAt ps j).1 (ptAt ps j).2 ≤ _ at b2
  dsimp only at *
  generalize offV x.1 x.2.1 x.2.2 (ptAt ps i).1 (ptAt ps i).2 = P at *
  generalize offV x.1 x.2.1 x.2.2 (ptAt ps j).1 (ptAt ps j).2 = Q at *
  generalize offV x.1 x.2.1 x.2.2 (ptAt ps k).1 (ptAt ps k).2 = R at *
  unfold ptAt at *
  clear hc hA hL
  generalize ps.getD i (0, 0) = p at *
  generalize ps.getD j (0, 0) = q at *
  generalize ps.getD k (0, 0) = r at *
  obtain ⟨p1, p2⟩ := p
  obtain ⟨q1, q2⟩ := q
  obtain ⟨r1, r2⟩ := r
  obtain ⟨xa, xb, xd⟩ := x
  dsimp only at *
  obtain ⟨b1, b1'⟩ := b1
  obtain ⟨b2, b2'⟩ := b2
  have i1 : (i : Int) < (ps.length : Int) := by omega
  have i2 : (j : Int) < (ps.length : Int) := by omega
  have i3 : (k : Int) < (ps.length : Int) := by omega
  have hb1 : b < w.heap.size + 1 := by omega
  have hb2 : b < w.heap.size + 2 := by omega
  go_enter Try.func88, Try.ntmps88
  go_wp2_with fail
  refine wp_region_after (by kernel_rfl) (by kernel_rfl) ?_; (repeat (first | go_big_quiet_step ((first | (go_at_call 74; first | (with_reducible exact quiet_after (HP.out _)) | (with_reducible exact quiet_after (HQ.out _))))) | (refine wpQuiet_step (fun K hK => ?_); go_simp; first | (refine hK _ ?_; clear hK K) | (apply Exists.intro; refine ⟨fun x => ?_, hK _ ?_⟩; (first | (go_at_call 74; first | (with_reducible exact quiet_after (HP.out _)) | (with_reducible exact quiet_after (HQ.out _)))); clear hK K)))); refine wpQuiet_nil ?_
  intro x1
  have hz_x1 := x1.out.size; (try simp only [World.size_alloc] at hz_x1); (try simp only [World.size_setCell] at hz_x1); have k0_x1 : b < x1.w.heap.size := (by omega); have j0_x1 : b < x1.w.heap.size + 1 := (by omega); have k1_x1 : w.heap.size < x1.w.heap.size := (by omega); have j1_x1 : w.heap.size < x1.w.heap.size + 1 := (by omega); have k2_x1 : w.heap.size + 1 < x1.w.heap.size := (by omega); have j2_x1 : w.heap.size + 1 < x1.w.heap.size + 1 := (by omega)
  by_cases t1 : (P.natAbs : Int) = m
  · subst t1
    by_cases t2 : Q = -P
    · subst t2
      clear HP HQ
      go_wp2_with fail
      refine wp_region_after (by kernel_rfl) (by kernel_rfl) ?_; (repeat (first | go_big_quiet_step ((first | (go_at_call 74; exact quiet_after (HR.out _)) | (go_at_call 73; exact quiet_after_same (abs_any _ _ (by omega) (by omega))))) | (refine wpQuiet_step (fun K hK => ?_); go_simp; first | (refine hK _ ?_; clear hK K) | (apply Exists.intro; refine ⟨fun x => ?_, hK _ ?_⟩; (first | (go_at_call 74; exact quiet_after (HR.out _)) | (go_at_call 73; exact quiet_after_same (abs_any _ _ (by omega) (by omega)))); clear hK K)))); refine wpQuiet_nil ?_
      intro x2
      go_wp2
      go_ret
      exact ⟨ret_bool (by unfold prf3; rw [Bool.eq_iff_iff]; simp), by (repeat' (first | (with_reducible exact Below.refl _ _) | (with_reducible assumption) | (with_reducible refine Below.alloc ?_ ?_ _) | (with_reducible refine Below.drew ?_) | (with_reducible refine below_drewN ?_ _) | (with_reducible refine Below.setCell ?_ ?_ _) | (with_reducible refine below_after ?_ ?_ _) | (with_reducible refine below_set ?_) | (with_reducible refine After.size_le _ ?_) | (with_reducible refine size_alloc_le ?_) | (with_reducible refine size_set_le ?_) | (with_reducible refine size_drewN_le ?_) | go_size))⟩
    · have d : (Q == -P) = false := beq_eq_false_iff_ne.2 t2
      have T := Lib.hid t2
      clear t2 HP HQ
      go_wp2_with fail
      refine wp_region_after (by kernel_rfl) (by kernel_rfl) ?_; (repeat (first | go_big_quiet_step ((first | (go_at_call 74; exact quiet_after (HR.out _)) | (go_at_call 73; exact quiet_after_same (abs_any _ _ (by omega) (by omega))))) | (refine wpQuiet_step (fun K hK => ?_); go_simp; first | (refine hK _ ?_; clear hK K) | (apply Exists.intro; refine ⟨fun x => ?_, hK _ ?_⟩; (first | (go_at_call 74; exact quiet_after (HR.out _)) | (go_at_call 73; exact quiet_after_same (abs_any _ _ (by omega) (by omega)))); clear hK K)))); refine wpQuiet_nil ?_
      intro x2
      go_wp2
      go_ret
      exact ⟨ret_bool (by unfold prf3; simp; exact fun h => absurd h T.out), by (repeat' (first | (with_reducible exact Below.refl _ _) | (with_reducible assumption) | (with_reducible refine Below.alloc ?_ ?_ _) | (with_reducible refine Below.drew ?_) | (with_reducible refine below_drewN ?_ _) | (with_reducible refine Below.setCell ?_ ?_ _) | (with_reducible refine below_after ?_ ?_ _) | (with_reducible refine below_set ?_) | (with_reducible refine After.size_le _ ?_) | (with_reducible refine size_alloc_le ?_) | (with_reducible refine size_set_le ?_) | (with_reducible refine size_drewN_le ?_) | go_size))⟩
  · have d : ((P.natAbs : Int) == m) = false := beq_eq_false_iff_ne.2 t1
    have T := Lib.hid t1
    clear t1 HP HQ
    go_wp2_with fail
    refine wp_region_after (by kernel_rfl) (by kernel_rfl) ?_; (repeat (first | go_big_quiet_step ((first | (go_at_call 74; exact quiet_after (HR.out _)) | (go_at_call 73; exact quiet_after_same (abs_any _ _ (by omega) (by omega))))) | (refine wpQuiet_step (fun K hK => ?_); go_simp; first | (refine hK _ ?_; clear hK K) | (apply Exists.intro; refine ⟨fun x => ?_, hK _ ?_⟩; (first | (go_at_call 74; exact quiet_after (HR.out _)) | (go_at_call 73; exact quiet_after_same (abs_any _ _ (by omega) (by omega)))); clear hK K)))); refine wpQuiet_nil ?_
    intro x2
    go_wp2
    go_ret
    exact ⟨ret_bool (by unfold prf3; simp; exact fun h => absurd h T.out), by (repeat' (first | (with_reducible exact Below.refl _ _) | (with_reducible assumption) | (with_reducible refine Below.alloc ?_ ?_ _) | (with_reducible refine Below.drew ?_) | (with_reducible refine below_drewN ?_ _) | (with_reducible refine Below.setCell ?_ ?_ _) | (with_reducible refine below_after ?_ ?_ _) | (with_reducible refine below_set ?_) | (with_reducible refine After.size_le _ ?_) | (with_reducible refine size_alloc_le ?_) | (with_reducible refine size_set_le ?_) | (with_reducible refine size_drewN_le ?_) | go_size))⟩

/-- The greatest distance that the reference's test knows is m: then it answers as the program's. -/
theorem rprf {P Q R m : Int} (hP : (P.natAbs : Int) ≤ m) (hQ : (Q.natAbs : Int) ≤ m) (hR : (R.natAbs : Int) ≤ m) :
    prf3 P Q R m = decide (m = 0 ∨ (P = m ∧ Q = -m ∧ R = m) ∨ (P = -m ∧ Q = m ∧ R = -m)) := by
  unfold prf3
  rw [decide_eq_decide]
  omega

set_option maxRecDepth 1000000 in
set_option maxHeartbeats 1000000 in
theorem rproves_any (b off cap : Nat) (x : Int × Int × Int) (ps : List (Int × Int)) (t : Tri) (w : World) (hb : b < w.heap.size) (hlen : ps.length ≤ 1000)
    (hc : ∀ i, i < ps.length → w.cell? ⟨b, off + i * 2, none⟩ = some (.int .i64 (ps.getD i (0, 0)).1) ∧ w.cell? ⟨b, off + i * 2 + 1, none⟩ = some (.int .i64 (ps.getD i (0, 0)).2))
    (hL : InBd x.1 x.2.1 x.2.2) (hA : AllIn ps) (h1 : t.1 < ps.length) (h2 : t.2.1 < ps.length) (h3 : t.2.2 < ps.length) :
    Calls Try.prog 89 #[.agg #[.int .i64 x.1, .int .i64 x.2.1, .int .i64 x.2.2], .slice (some ⟨b, off, none⟩) ps.length cap, triV t] w fun e w' => e = .returned (.bool (prfB x ps (woF x ps) t)) ∧ Below w.heap.size w w' := by
  have hn : 0 < ps.length := by omega
  have hk := worI_lt (x := x) hn
  have HW : Hid (∀ W, Below w.heap.size w W → _) := fun W hW => rworst_any b off cap x ps W (Nat.lt_of_lt_of_le hb hW.size) hlen (cells_on hb hc hW) hL hA
  have HF := Lib.hid (fun w => far_any x.1 x.2.1 x.2.2 (ptAt ps (worI x ps)).1 (ptAt ps (worI x ps)).2 w hL (hA _ hk))
  have HP := Lib.hid (fun w => off_any x.1 x.2.1 x.2.2 (ptAt ps t.1).1 (ptAt ps t.1).2 w hL (hA _ h1))
  have HQ := Lib.hid (fun w => off_any x.1 x.2.1 x.2.2 (ptAt ps t.2.1).1 (ptAt ps t.2.1).2 w hL (hA _ h2))
  have HR := Lib.hid (fun w => off_any x.1 x.2.1 x.2.2 (ptAt ps t.2.2).1 (ptAt ps t.2.2).2 w hL (hA _ h3))
  have hi := woF_hi x hn
  have eP := hi.2 t.1 h1
  have eQ := hi.2 t.2.1 h2
  have eR := hi.2 t.2.2 h3
  have bm := offV_bd hL (hA _ hk)
  have hm : woF x ps = (offV x.1 x.2.1 x.2.2 (ptAt ps (worI x ps)).1 (ptAt ps (worI x ps)).2).natAbs := rfl
  obtain ⟨c1, c1'⟩ := hc _ h1
  obtain ⟨c2, c2'⟩ := hc _ h2
  obtain ⟨c3, c3'⟩ := hc _ h3
  obtain ⟨c4, c4'⟩ := hc _ hk
  unfold prfB offP
  unfold farV at eP eQ eR
  rw [rprf eP eQ eR]
  rw [← hm] at HF
  change _ ≤ offV x.1 x.2.1 x.2.2 (ptAt ps (worI x ps)).1 (ptAt ps (worI x ps)).2 ∧ offV x.1 x.2.1 x.2.2 (ptAt ps (worI x ps)).1 (ptAt ps (worI x ps)).2 ≤ _ at bm
  have m0 : 0 ≤ woF x ps := by omega
  have m1 : woF x ps ≤ 400000000000000000 := by omega
  obtain ⟨i, j, k⟩ := t
  unfold triV
  dsimp only at *
  clear bm hm hi hc hA hL
  generalize woF x ps = m at *
  generalize offV x.1 x.2.1 x.2.2 (ptAt ps i).1 (ptAt ps i).2 = P at *
  generalize offV x.1 x.2.1 x.2.2 (ptAt ps j).1 (ptAt ps j).2 = Q at *
  generalize offV x.1 x.2.1 x.2.2 (ptAt ps k).1 (ptAt ps k).2 = R at *
  generalize worI x ps = l at *
  unfold ptAt at *
  generalize ps.getD i (0, 0) = p at *
  generalize ps.getD j (0, 0) = q at *
  generalize ps.getD k (0, 0) = r at *
  generalize ps.getD l (0, 0) = s at *
  obtain ⟨p1, p2⟩ := p
  obtain ⟨q1, q2⟩ := q
  obtain ⟨r1, r2⟩ := r
  obtain ⟨s1, s2⟩ := s
  obtain ⟨xa, xb, xd⟩ := x
  dsimp only at *
  have EP := Lib.hid eP
  have EQ := Lib.hid eQ
  have ER := Lib.hid eR
  have i1 : (i : Int) < (ps.length : Int) := by omega
  have i2 : (j : Int) < (ps.length : Int) := by omega
  have i3 : (k : Int) < (ps.length : Int) := by omega
  have i4 : (l : Int) < (ps.length : Int) := by omega
  have hb1 : b < w.heap.size + 1 := by omega
  have hb2 : b < w.heap.size + 2 := by omega
  clear eP eQ eR
  go_enter Try.func89, Try.ntmps89
  by_cases z : m = 0
  · subst z
    go_wp2_with fail
    refine wp_region_after (by kernel_rfl) (by kernel_rfl) ?_; (repeat (first | go_big_quiet_step ((first | (go_at_call 78; refine quiet_after (HW.out _ ?_); (repeat' (first | (with_reducible exact Below.refl _ _) | (with_reducible assumption) | (with_reducible refine Below.alloc ?_ ?_ _) | (with_reducible refine Below.drew ?_) | (with_reducible refine below_drewN ?_ _) | (with_reducible refine Below.setCell ?_ ?_ _) | (with_reducible refine below_after ?_ ?_ _) | (with_reducible refine below_set ?_) | (with_reducible refine After.size_le _ ?_) | (with_reducible refine size_alloc_le ?_) | (with_reducible refine size_set_le ?_) | (with_reducible refine size_drewN_le ?_) | go_size))) | (go_at_call 76; exact quiet_after (HF.out _)))) | (refine wpQuiet_step (fun K hK => ?_); go_simp; first | (refine hK _ ?_; clear hK K) | (apply Exists.intro; refine ⟨fun x => ?_, hK _ ?_⟩; (first | (go_at_call 78; refine quiet_after (HW.out _ ?_); (repeat' (first | (with_reducible exact Below.refl _ _) | (with_reducible assumption) | (with_reducible refine Below.alloc ?_ ?_ _) | (with_reducible refine Below.drew ?_) | (with_reducible refine below_drewN ?_ _) | (with_reducible refine Below.setCell ?_ ?_ _) | (with_reducible refine below_after ?_ ?_ _) | (with_reducible refine below_set ?_) | (with_reducible refine After.size_le _ ?_) | (with_reducible refine size_alloc_le ?_) | (with_reducible refine size_set_le ?_) | (with_reducible refine size_drewN_le ?_) | go_size))) | (go_at_call 76; exact quiet_after (HF.out _))); clear hK K)))); refine wpQuiet_nil ?_
    intro x1
    go_wp2
    go_ret
    exact ⟨rfl, by (repeat' (first | (with_reducible exact Below.refl _ _) | (with_reducible assumption) | (with_reducible refine Below.alloc ?_ ?_ _) | (with_reducible refine Below.drew ?_) | (with_reducible refine below_drewN ?_ _) | (with_reducible refine Below.setCell ?_ ?_ _) | (with_reducible refine below_after ?_ ?_ _) | (with_reducible refine below_set ?_) | (with_reducible refine After.size_le _ ?_) | (with_reducible refine size_alloc_le ?_) | (with_reducible refine size_set_le ?_) | (with_reducible refine size_drewN_le ?_) | go_size))⟩
  · have d : (m == 0) = false := beq_eq_false_iff_ne.2 z
    have Z := Lib.hid z
    clear z
    go_wp2_with fail
    refine wp_region_after (by kernel_rfl) (by kernel_rfl) ?_; (repeat (first | go_big_quiet_step ((first | (go_at_call 78; refine quiet_after (HW.out _ ?_); (repeat' (first | (with_reducible exact Below.refl _ _) | (with_reducible assumption) | (with_reducible refine Below.alloc ?_ ?_ _) | (with_reducible refine Below.drew ?_) | (with_reducible refine below_drewN ?_ _) | (with_reducible refine Below.setCell ?_ ?_ _) | (with_reducible refine below_after ?_ ?_ _) | (with_reducible refine below_set ?_) | (with_reducible refine After.size_le _ ?_) | (with_reducible refine size_alloc_le ?_) | (with_reducible refine size_set_le ?_) | (with_reducible refine size_drewN_le ?_) | go_size))) | (go_at_call 76; exact quiet_after (HF.out _)))) | (refine wpQuiet_step (fun K hK => ?_); go_simp; first | (refine hK _ ?_; clear hK K) | (apply Exists.intro; refine ⟨fun x => ?_, hK _ ?_⟩; (first | (go_at_call 78; refine quiet_after (HW.out _ ?_); (repeat' (first | (with_reducible exact Below.refl _ _) | (with_reducible assumption) | (with_reducible refine Below.alloc ?_ ?_ _) | (with_reducible refine Below.drew ?_) | (with_reducible refine below_drewN ?_ _) | (with_reducible refine Below.setCell ?_ ?_ _) | (with_reducible refine below_after ?_ ?_ _) | (with_reducible refine below_set ?_) | (with_reducible refine After.size_le _ ?_) | (with_reducible refine size_alloc_le ?_) | (with_reducible refine size_set_le ?_) | (with_reducible refine size_drewN_le ?_) | go_size))) | (go_at_call 76; exact quiet_after (HF.out _))); clear hK K)))); refine wpQuiet_nil ?_
    intro x1
    have hz_x1 := x1.out.size; (try simp only [World.size_alloc] at hz_x1); (try simp only [World.size_setCell] at hz_x1); have k0_x1 : b < x1.w.heap.size := (by omega); have j0_x1 : b < x1.w.heap.size + 1 := (by omega); have k1_x1 : w.heap.size < x1.w.heap.size := (by omega); have j1_x1 : w.heap.size < x1.w.heap.size + 1 := (by omega); have k2_x1 : w.heap.size + 1 < x1.w.heap.size := (by omega); have j2_x1 : w.heap.size + 1 < x1.w.heap.size + 1 := (by omega)
    clear HW HF
    go_wp2_with fail
    refine wp_region_after (by kernel_rfl) (by kernel_rfl) ?_; (repeat (first | go_big_quiet_step (((go_at_call 102; first | (with_reducible exact quiet_after (HP.out _)) | (with_reducible exact quiet_after (HQ.out _)) | (with_reducible exact quiet_after (HR.out _))))) | (refine wpQuiet_step (fun K hK => ?_); go_simp; first | (refine hK _ ?_; clear hK K) | (apply Exists.intro; refine ⟨fun x => ?_, hK _ ?_⟩; ((go_at_call 102; first | (with_reducible exact quiet_after (HP.out _)) | (with_reducible exact quiet_after (HQ.out _)) | (with_reducible exact quiet_after (HR.out _)))); clear hK K)))); refine wpQuiet_nil ?_
    intro x2
    have Z1 : (m == -m) = false := beq_eq_false_iff_ne.2 (by have := Z.out; omega)
    have Z2 : (-m == m) = false := beq_eq_false_iff_ne.2 (by have := Z.out; omega)
    go_wp2
    all_goals
      go_ret
      exact ⟨ret_dec (by have := Z.out; simp; omega), by (repeat' (first | (with_reducible exact Below.refl _ _) | (with_reducible assumption) | (with_reducible refine Below.alloc ?_ ?_ _) | (with_reducible refine Below.drew ?_) | (with_reducible refine below_drewN ?_ _) | (with_reducible refine Below.setCell ?_ ?_ _) | (with_reducible refine below_after ?_ ?_ _) | (with_reducible refine below_set ?_) | (with_reducible refine After.size_le _ ?_) | (with_reducible refine size_alloc_le ?_) | (with_reducible refine size_set_le ?_) | (with_reducible refine size_drewN_le ?_) | go_size))⟩
end Go.Proofs.Ytdhobjflfhijjaa
