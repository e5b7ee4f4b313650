/- A line's value at a height and its distance from a point, in both programs. -/
import Derived.Test.YtdhobjflfhijjaaNear
namespace Go.Proofs.Ytdhobjflfhijjaa
open Go.RowKit
attribute [local go_sem] After.cell After.frozen After.lt After.le After.ne After.ne' After.set_eq After.size_set After.lt_add

def valV (a b h : Int) : Int := a + b * h
def offV (a b d h x : Int) : Int := x * d - valV a b h
theorem valV_bd {a b d h : Int} (hI : InBd a b d) (h0 : 0 ≤ h) (h1 : h ≤ 200000) : -300000000000000000 ≤ valV a b h ∧ valV a b h ≤ 300000000000000000 := by
  unfold InBd at hI
  have m := prod_bd (a := b) (b := h) (A := 1000000000000) (B := 200000) (by omega) (by omega) (by omega) (by omega)
  unfold valV; omega
theorem offV_bd {a b d h x : Int} (hI : InBd a b d) (hp : InPt h x) : -400000000000000000 ≤ offV a b d h x ∧ offV a b d h x ≤ 400000000000000000 := by
  unfold InPt at hp
  have v := valV_bd hI hp.1 hp.2.1
  unfold InBd at hI
  have m := prod_bd (a := x) (b := d) (A := 10000) (B := 1000000000000) (by omega) (by omega) (by omega) (by omega)
  unfold offV; omega

set_option maxRecDepth 100000 in
set_option maxHeartbeats 400000 in
theorem value_any (a b d h : Int) (w : World) (hI : InBd a b d) (h0 : 0 ≤ h) (h1 : h ≤ 200000) :
    Calls Try.prog 70 #[.agg #[.int .i64 a, .int .i64 b, .int .i64 d], .int .i64 h] w fun e w' => e = .returned (.int .i64 (valV a b h)) ∧ Below w.heap.size w w' := by
  unfold InBd at hI
  have m := prod_bd (a := b) (b := h) (A := 1000000000000) (B := 200000) (by omega) (by omega) (by omega) (by omega)
  obtain ⟨i1, i2, i3, i4, i5, i6⟩ := hI
  obtain ⟨m1, m2⟩ := m
  go_enter Try.func70, Try.ntmps70
  go_wp2
  go_ret
  exact ⟨rfl, by (repeat' (first | (with_reducible exact Below.refl _ _) | (with_reducible assumption) | (with_reducible refine Below.alloc ?_ ?_ _) | (with_reducible refine Below.drew ?_) | (with_reducible refine below_drewN ?_ _) | (with_reducible refine Below.setCell ?_ ?_ _) | (with_reducible refine below_after ?_ ?_ _) | (with_reducible refine below_set ?_) | (with_reducible refine After.size_le _ ?_) | (with_reducible refine size_alloc_le ?_) | (with_reducible refine size_set_le ?_) | (with_reducible refine size_drewN_le ?_) | go_size))⟩

set_option maxRecDepth 100000 in
set_option maxHeartbeats 400000 in
theorem above_any (a b d h x : Int) (w : World) (hI : InBd a b d) (hp : InPt h x) :
    Calls Try.prog 74 #[.agg #[.int .i64 a, .int .i64 b, .int .i64 d], .agg #[.int .i64 h, .int .i64 x]] w fun e w' => e = .returned (.int .i64 (offV a b d h x)) ∧ Below w.heap.size w w' := by
  have HI := Lib.hid hI
  have HE : Hid (x * d - valV a b h = offV a b d h x) := rfl
  unfold InPt at hp
  obtain ⟨p1, p2, p3, p4⟩ := hp
  have v := valV_bd hI p1 p2
  have HV := Lib.hid (fun w => value_any a b d h w hI p1 p2)
  unfold InBd at hI
  have m := prod_bd (a := x) (b := d) (A := 10000) (B := 1000000000000) (by omega) (by omega) (by omega) (by omega)
  obtain ⟨m1, m2⟩ := m
  obtain ⟨v1, v2⟩ := v
  rw [← HE.out]
  generalize valV a b h = v at *
  clear hI
  go_enter Try.func74, Try.ntmps74
  go_wp2
  refine wp_region_after (by kernel_rfl) (by kernel_rfl) ?_; (repeat (first | go_big_quiet_step ((go_at_call 70; exact quiet_after (HV.out _))) | (refine wpQuiet_step (fun K hK => ?_); go_simp; first | (refine hK _ ?_; clear hK K) | (apply Exists.intro; refine ⟨fun x => ?_, hK _ ?_⟩; (go_at_call 70; exact quiet_after (HV.out _)); clear hK K)))); refine wpQuiet_nil ?_
  intro y
  go_wp2
  go_ret
  exact ⟨rfl, by (repeat' (first | (with_reducible exact Below.refl _ _) | (with_reducible assumption) | (with_reducible refine Below.alloc ?_ ?_ _) | (with_reducible refine Below.drew ?_) | (with_reducible refine below_drewN ?_ _) | (with_reducible refine Below.setCell ?_ ?_ _) | (with_reducible refine below_after ?_ ?_ _) | (with_reducible refine below_set ?_) | (with_reducible refine After.size_le _ ?_) | (with_reducible refine size_alloc_le ?_) | (with_reducible refine size_set_le ?_) | (with_reducible refine size_drewN_le ?_) | go_size))⟩

set_option maxRecDepth 100000 in
set_option maxHeartbeats 400000 in
theorem off_any (a b d h x : Int) (w : World) (hI : InBd a b d) (hp : InPt h x) :
    Calls Try.prog 102 #[.agg #[.int .i64 a, .int .i64 b, .int .i64 d], .agg #[.int .i64 h, .int .i64 x]] w fun e w' => e = .returned (.int .i64 (offV a b d h x)) ∧ Below w.heap.size w w' := by
  have HE : Hid (x * d - a - b * h = offV a b d h x) := by show _ = _; unfold offV valV; omega
  unfold InPt at hp
  obtain ⟨p1, p2, p3, p4⟩ := hp
  unfold InBd at hI
  have m := prod_bd (a := x) (b := d) (A := 10000) (B := 1000000000000) (by omega) (by omega) (by omega) (by omega)
  have n := prod_bd (a := b) (b := h) (A := 1000000000000) (B := 200000) (by omega) (by omega) (by omega) (by omega)
  obtain ⟨m1, m2⟩ := m
  obtain ⟨n1, n2⟩ := n
  obtain ⟨i1, i2, i3, i4, i5, i6⟩ := hI
  go_enter Try.func102, Try.ntmps102
  go_wp2
  go_ret
  exact ⟨ret_int HE.out, by (repeat' (first | (with_reducible exact Below.refl _ _) | (with_reducible assumption) | (with_reducible refine Below.alloc ?_ ?_ _) | (with_reducible refine Below.drew ?_) | (with_reducible refine below_drewN ?_ _) | (with_reducible refine Below.setCell ?_ ?_ _) | (with_reducible refine below_after ?_ ?_ _) | (with_reducible refine below_set ?_) | (with_reducible refine After.size_le _ ?_) | (with_reducible refine size_alloc_le ?_) | (with_reducible refine size_set_le ?_) | (with_reducible refine size_drewN_le ?_) | go_size))⟩

set_option maxRecDepth 100000 in
set_option maxHeartbeats 400000 in
theorem far_any (a b d h x : Int) (w : World) (hI : InBd a b d) (hp : InPt h x) :
    Calls Try.prog 76 #[.agg #[.int .i64 a, .int .i64 b, .int .i64 d], .agg #[.int .i64 h, .int .i64 x]] w fun e w' => e = .returned (.int .i64 (offV a b d h x).natAbs) ∧ Below w.heap.size w w' := by
  have HO := Lib.hid (fun w => off_any a b d h x w hI hp)
  have v := offV_bd hI hp
  generalize offV a b d h x = v at *
  obtain ⟨v1, v2⟩ := v
  clear hI hp
  by_cases hn : v < 0
  · go_enter Try.func76, Try.ntmps76
    go_wp2_with (go_at_call 102; refine calls_after (HO.out _) ?_; intro y)
    go_ret
    exact ⟨ret_int (by omega), by (repeat' (first | (with_reducible exact Below.refl _ _) | (with_reducible assumption) | (with_reducible refine Below.alloc ?_ ?_ _) | (with_reducible refine Below.drew ?_) | (with_reducible refine below_drewN ?_ _) | (with_reducible refine Below.setCell ?_ ?_ _) | (with_reducible refine below_after ?_ ?_ _) | (with_reducible refine below_set ?_) | (with_reducible refine After.size_le _ ?_) | (with_reducible refine size_alloc_le ?_) | (with_reducible refine size_set_le ?_) | (with_reducible refine size_drewN_le ?_) | go_size))⟩
  · go_enter Try.func76, Try.ntmps76
    go_wp2_with (go_at_call 102; refine calls_after (HO.out _) ?_; intro y)
    go_ret
    exact ⟨ret_int (by omega), by (repeat' (first | (with_reducible exact Below.refl _ _) | (with_reducible assumption) | (with_reducible refine Below.alloc ?_ ?_ _) | (with_reducible refine Below.drew ?_) | (with_reducible refine below_drewN ?_ _) | (with_reducible refine Below.setCell ?_ ?_ _) | (with_reducible refine below_after ?_ ?_ _) | (with_reducible refine below_set ?_) | (with_reducible refine After.size_le _ ?_) | (with_reducible refine size_alloc_le ?_) | (with_reducible refine size_set_le ?_) | (with_reducible refine size_drewN_le ?_) | go_size))⟩

theorem validLine_t (a b d : Int) (w : World) (h : GoodLine a b d) :
    Calls Try.prog 28 #[.agg #[.int .i64 a, .int .i64 b, .int .i64 d]] w fun e w' => e = .returned (.bool true) ∧ Below w.heap.size w w' :=
  (validLine_any a b d w).mono fun _ _ ⟨h1, h2⟩ => ⟨by rw [h1]; simp [h], h2⟩
theorem validLine_f (a b d : Int) (w : World) (h : ¬ GoodLine a b d) :
    Calls Try.prog 28 #[.agg #[.int .i64 a, .int .i64 b, .int .i64 d]] w fun e w' => e = .returned (.bool false) ∧ Below w.heap.size w w' :=
  (validLine_any a b d w).mono fun _ _ ⟨h1, h2⟩ => ⟨by rw [h1]; simp [h], h2⟩
theorem rvalidLine_t (a b d : Int) (w : World) (h : GoodLine a b d) :
    Calls Try.prog 29 #[.agg #[.int .i64 a, .int .i64 b, .int .i64 d]] w fun e w' => e = .returned (.bool true) ∧ Below w.heap.size w w' :=
  (rvalidLine_any a b d w).mono fun _ _ ⟨h1, h2⟩ => ⟨by rw [h1]; simp [h], h2⟩
theorem rvalidLine_f (a b d : Int) (w : World) (h : ¬ GoodLine a b d) :
    Calls Try.prog 29 #[.agg #[.int .i64 a, .int .i64 b, .int .i64 d]] w fun e w' => e = .returned (.bool false) ∧ Below w.heap.size w w' :=
  (rvalidLine_any a b d w).mono fun _ _ ⟨h1, h2⟩ => ⟨by rw [h1]; simp [h], h2⟩

/-! ### At -/
def atN (a b d h : Int) : Int := if GoodLine a b d ∧ 0 ≤ h ∧ h ≤ 200000 then ratN (valV a b h) d else 0
def atD (a b d h : Int) : Int := if GoodLine a b d ∧ 0 ≤ h ∧ h ≤ 200000 then ratD (valV a b h) d else 0
def atE (a b d h : Int) : Int := if GoodLine a b d then if 0 ≤ h ∧ h ≤ 200000 then 0 else 7 else 1

set_option maxRecDepth 100000 in
set_option maxHeartbeats 400000 in
theorem at_any (a b d h : Int) (w : World) :
    Calls Try.prog 30 #[.agg #[.int .i64 a, .int .i64 b, .int .i64 d], .int .i64 h] w fun e w' => e = .returned (.tuple #[.agg #[.int .i64 (atN a b d h), .int .i64 (atD a b d h)], .int .i64 (atE a b d h)]) ∧ Below w.heap.size w w' := by
  by_cases hG : GoodLine a b d
  · have HG := Lib.hid hG
    by_cases hr : 0 ≤ h ∧ h ≤ 200000
    · have e : atN a b d h = ratN (valV a b h) d ∧ atD a b d h = ratD (valV a b h) d ∧ atE a b d h = 0 := by simp [atN, atD, atE, hG, hr.1, hr.2]
      rw [e.1, e.2.1, e.2.2]
      have HV := Lib.hid (fun w => value_any a b d h w hG.1 hr.1 hr.2)
      have hv := valV_bd hG.1 hr.1 hr.2
      have hI := hG.1
      unfold InBd at hI
      have HR := Lib.hid (fun w => ratio_any (valV a b h) d w (by omega) (by omega) (by omega) (by omega))
      generalize valV a b h = v at *
      obtain ⟨r1, r2⟩ := hr
      clear e hG hI
      go_enter Try.func30, Try.ntmps30
      go_wp2_with (first | (go_at_call 28; refine calls_after (validLine_t _ _ _ _ HG.out) ?_; intro x1) | (go_at_call 68; go_in))
      have s0 : w.heap.size < x1.w.heap.size := by have := x1.out.size; simp at this; omega
      have s1 : w.heap.size + 1 < x1.w.heap.size := by have := x1.out.size; simp at this; omega
      refine wp_region_after_tail 6 (by kernel_rfl) (by kernel_rfl) ?_; simp only [List.take_succ_cons, List.take_zero, List.drop_succ_cons, List.drop_zero]; (repeat (first | go_big_quiet_step ((first | (go_at_call 70; exact quiet_after (HV.out _)) | (go_at_call 69; exact quiet_after (HR.out _)))) | (refine wpQuiet_step (fun K hK => ?_); go_simp; first | (refine hK _ ?_; clear hK K) | (apply Exists.intro; refine ⟨fun x => ?_, hK _ ?_⟩; (first | (go_at_call 70; exact quiet_after (HV.out _)) | (go_at_call 69; exact quiet_after (HR.out _))); clear hK K)))); refine wpQuiet_nil ?_
      intro x2
      go_wp2
      go_returns
      exact ⟨rfl, by (repeat' (first | (with_reducible exact Below.refl _ _) | (with_reducible assumption) | (with_reducible refine Below.alloc ?_ ?_ _) | (with_reducible refine Below.drew ?_) | (with_reducible refine below_drewN ?_ _) | (with_reducible refine Below.setCell ?_ ?_ _) | (with_reducible refine below_after ?_ ?_ _) | (with_reducible refine below_set ?_) | (with_reducible refine After.size_le _ ?_) | (with_reducible refine size_alloc_le ?_) | (with_reducible refine size_set_le ?_) | (with_reducible refine size_drewN_le ?_) | go_size))⟩
    · have e : atN a b d h = 0 ∧ atD a b d h = 0 ∧ atE a b d h = 7 := by
        unfold atN atD atE
        rw [if_neg (fun h => hr h.2), if_neg (fun h => hr h.2), if_pos hG, if_neg hr]
        exact ⟨rfl, rfl, rfl⟩
      rw [e.1, e.2.1, e.2.2]
      clear e hG
      rcases (show h < 0 ∨ 200000 < h by omega) with h1 | h1
      · clear hr
        go_enter Try.func30, Try.ntmps30
        go_wp2_with (first | (go_at_call 28; refine calls_after (validLine_t _ _ _ _ HG.out) ?_; intro x1) | (go_at_call 68; go_in))
        go_returns
        exact ⟨rfl, by (repeat' (first | (with_reducible exact Below.refl _ _) | (with_reducible assumption) | (with_reducible refine Below.alloc ?_ ?_ _) | (with_reducible refine Below.drew ?_) | (with_reducible refine below_drewN ?_ _) | (with_reducible refine Below.setCell ?_ ?_ _) | (with_reducible refine below_after ?_ ?_ _) | (with_reducible refine below_set ?_) | (with_reducible refine After.size_le _ ?_) | (with_reducible refine size_alloc_le ?_) | (with_reducible refine size_set_le ?_) | (with_reducible refine size_drewN_le ?_) | go_size))⟩
      · have d1 : decide (h ≤ 200000) = false := by simp; omega
        clear hr
        go_enter Try.func30, Try.ntmps30
        go_wp2_with (first | (go_at_call 28; refine calls_after (validLine_t _ _ _ _ HG.out) ?_; intro x1) | (go_at_call 68; go_in))
        go_returns
        exact ⟨rfl, by (repeat' (first | (with_reducible exact Below.refl _ _) | (with_reducible assumption) | (with_reducible refine Below.alloc ?_ ?_ _) | (with_reducible refine Below.drew ?_) | (with_reducible refine below_drewN ?_ _) | (with_reducible refine Below.setCell ?_ ?_ _) | (with_reducible refine below_after ?_ ?_ _) | (with_reducible refine below_set ?_) | (with_reducible refine After.size_le _ ?_) | (with_reducible refine size_alloc_le ?_) | (with_reducible refine size_set_le ?_) | (with_reducible refine size_drewN_le ?_) | go_size))⟩
  · have HG := Lib.hid hG
    have e : atN a b d h = 0 ∧ atD a b d h = 0 ∧ atE a b d h = 1 := by simp [atN, atD, atE, hG]
    rw [e.1, e.2.1, e.2.2]
    clear e hG
    go_enter Try.func30, Try.ntmps30
    go_wp2_with (go_at_call 28; refine calls_after (validLine_f _ _ _ _ HG.out) ?_; intro x1)
    go_returns
    exact ⟨rfl, by (repeat' (first | (with_reducible exact Below.refl _ _) | (with_reducible assumption) | (with_reducible refine Below.alloc ?_ ?_ _) | (with_reducible refine Below.drew ?_) | (with_reducible refine below_drewN ?_ _) | (with_reducible refine Below.setCell ?_ ?_ _) | (with_reducible refine below_after ?_ ?_ _) | (with_reducible refine below_set ?_) | (with_reducible refine After.size_le _ ?_) | (with_reducible refine size_alloc_le ?_) | (with_reducible refine size_set_le ?_) | (with_reducible refine size_drewN_le ?_) | go_size))⟩

set_option maxRecDepth 100000 in
set_option maxHeartbeats 400000 in
theorem rat_any (a b d h : Int) (w : World) :
    Calls Try.prog 31 #[.agg #[.int .i64 a, .int .i64 b, .int .i64 d], .int .i64 h] w fun e w' => e = .returned (.tuple #[.agg #[.int .i64 (atN a b d h), .int .i64 (atD a b d h)], .int .i64 (atE a b d h)]) ∧ Below w.heap.size w w' := by
  by_cases hG : GoodLine a b d
  · have HG := Lib.hid hG
    by_cases hr : 0 ≤ h ∧ h ≤ 200000
    · have e : atN a b d h = ratN (valV a b h) d ∧ atD a b d h = ratD (valV a b h) d ∧ atE a b d h = 0 := by simp [atN, atD, atE, hG, hr.1, hr.2]
      rw [e.1, e.2.1, e.2.2]
      have hv := valV_bd hG.1 hr.1 hr.2
      have hI := hG.1
      unfold InBd at hI
      have HR : Hid (∀ w, Calls Try.prog 71 #[.int .i64 (a + b * h), .int .i64 d] w fun e w' => e = .returned (.agg #[.int .i64 (ratN (valV a b h) d), .int .i64 (ratD (valV a b h) d)]) ∧ Below w.heap.size w w') := fun w => rlowest_any (valV a b h) d w (by omega) (by omega) (by omega) (by omega)
      have m := prod_bd (a := b) (b := h) (A := 1000000000000) (B := 200000) (by omega) (by omega) (by omega) (by omega)
      obtain ⟨m1, m2⟩ := m
      obtain ⟨i1, i2, i3, i4, i5, i6⟩ := hI
      obtain ⟨r1, r2⟩ := hr
      clear e hG hv
      go_enter Try.func31, Try.ntmps31
      go_wp2_with (first | (go_at_call 29; refine calls_after (rvalidLine_t _ _ _ _ HG.out) ?_; intro x1) | (go_at_call 71; refine calls_after2 (HR.out _) ?_; intro x2) | (go_at_call 61; go_in))
      go_returns
      exact ⟨rfl, by (repeat' (first | (with_reducible exact Below.refl _ _) | (with_reducible assumption) | (with_reducible refine Below.alloc ?_ ?_ _) | (with_reducible refine Below.drew ?_) | (with_reducible refine below_drewN ?_ _) | (with_reducible refine Below.setCell ?_ ?_ _) | (with_reducible refine below_after ?_ ?_ _) | (with_reducible refine below_set ?_) | (with_reducible refine After.size_le _ ?_) | (with_reducible refine size_alloc_le ?_) | (with_reducible refine size_set_le ?_) | (with_reducible refine size_drewN_le ?_) | go_size))⟩
    · have e : atN a b d h = 0 ∧ atD a b d h = 0 ∧ atE a b d h = 7 := by
        unfold atN atD atE
        rw [if_neg (fun h => hr h.2), if_neg (fun h => hr h.2), if_pos hG, if_neg hr]
        exact ⟨rfl, rfl, rfl⟩
      rw [e.1, e.2.1, e.2.2]
      clear e hG
      rcases (show h < 0 ∨ 200000 < h by omega) with h1 | h1
      · clear hr
        go_enter Try.func31, Try.ntmps31
        go_wp2_with (first | (go_at_call 29; refine calls_after (rvalidLine_t _ _ _ _ HG.out) ?_; intro x1) | (go_at_call 61; go_in))
        go_returns
        exact ⟨rfl, by (repeat' (first | (with_reducible exact Below.refl _ _) | (with_reducible assumption) | (with_reducible refine Below.alloc ?_ ?_ _) | (with_reducible refine Below.drew ?_) | (with_reducible refine below_drewN ?_ _) | (with_reducible refine Below.setCell ?_ ?_ _) | (with_reducible refine below_after ?_ ?_ _) | (with_reducible refine below_set ?_) | (with_reducible refine After.size_le _ ?_) | (with_reducible refine size_alloc_le ?_) | (with_reducible refine size_set_le ?_) | (with_reducible refine size_drewN_le ?_) | go_size))⟩
      · have d1 : decide (h ≤ 200000) = false := by simp; omega
        clear hr
        go_enter Try.func31, Try.ntmps31
        go_wp2_with (first | (go_at_call 29; refine calls_after (rvalidLine_t _ _ _ _ HG.out) ?_; intro x1) | (go_at_call 61; go_in))
        go_returns
        exact ⟨rfl, by (repeat' (first | (with_reducible exact Below.refl _ _) | (with_reducible assumption) | (with_reducible refine Below.alloc ?_ ?_ _) | (with_reducible refine Below.drew ?_) | (with_reducible refine below_drewN ?_ _) | (with_reducible refine Below.setCell ?_ ?_ _) | (with_reducible refine below_after ?_ ?_ _) | (with_reducible refine below_set ?_) | (with_reducible refine After.size_le _ ?_) | (with_reducible refine size_alloc_le ?_) | (with_reducible refine size_set_le ?_) | (with_reducible refine size_drewN_le ?_) | go_size))⟩
  · have HG := Lib.hid hG
    have e : atN a b d h = 0 ∧ atD a b d h = 0 ∧ atE a b d h = 1 := by simp [atN, atD, atE, hG]
    rw [e.1, e.2.1, e.2.2]
    clear e hG
    go_enter Try.func31, Try.ntmps31
    go_wp2_with (go_at_call 29; refine calls_after (rvalidLine_f _ _ _ _ HG.out) ?_; intro x1)
    go_returns
    exact ⟨rfl, by (repeat' (first | (with_reducible exact Below.refl _ _) | (with_reducible assumption) | (with_reducible refine Below.alloc ?_ ?_ _) | (with_reducible refine Below.drew ?_) | (with_reducible refine below_drewN ?_ _) | (with_reducible refine Below.setCell ?_ ?_ _) | (with_reducible refine below_after ?_ ?_ _) | (with_reducible refine below_set ?_) | (with_reducible refine After.size_le _ ?_) | (with_reducible refine size_alloc_le ?_) | (with_reducible refine size_set_le ?_) | (with_reducible refine size_drewN_le ?_) | go_size))⟩

/-! ### Distance -/
def disN (a b d h x : Int) : Int := if GoodLine a b d ∧ InPt h x then ratN (offV a b d h x).natAbs d else 0
def disD (a b d h x : Int) : Int := if GoodLine a b d ∧ InPt h x then ratD (offV a b d h x).natAbs d else 0
def disE (a b d h x : Int) : Int := if GoodLine a b d ∧ InPt h x then 0 else 1

set_option maxRecDepth 100000 in
set_option maxHeartbeats 400000 in
theorem distance_any (a b d h x : Int) (w : World) :
    Calls Try.prog 32 #[.agg #[.int .i64 a, .int .i64 b, .int .i64 d], .agg #[.int .i64 h, .int .i64 x]] w fun e w' => e = .returned (.tuple #[.agg #[.int .i64 (disN a b d h x), .int .i64 (disD a b d h x)], .int .i64 (disE a b d h x)]) ∧ Below w.heap.size w w' := by
  by_cases hG : GoodLine a b d
  · have HG := Lib.hid hG
    by_cases hp : InPt h x
    · have HP := Lib.hid hp
      have e : disN a b d h x = ratN (offV a b d h x).natAbs d ∧ disD a b d h x = ratD (offV a b d h x).natAbs d ∧ disE a b d h x = 0 := by simp [disN, disD, disE, hG, hp]
      rw [e.1, e.2.1, e.2.2]
      have HV := Lib.hid (fun w => above_any a b d h x w hG.1 hp)
      have hv := offV_bd hG.1 hp
      have hI := hG.1
      unfold InBd at hI
      have HR := Lib.hid (fun w => ratio_any ((offV a b d h x).natAbs : Nat) d w (by omega) (by omega) (by omega) (by omega))
      generalize offV a b d h x = v at *
      obtain ⟨v1, v2⟩ := hv
      clear e hG hI hp
      go_enter Try.func32, Try.ntmps32
      go_wp2_with (first | (go_at_call 28; refine calls_after (validLine_t _ _ _ _ HG.out) ?_; intro x1) | (go_at_call 72; refine calls_after2 (validPoint_t _ _ _ HP.out) ?_; intro x2))
      have s0 : w.heap.size < x2.w.heap.size := by have := x2.out.size; simp at this; omega
      have s1 : w.heap.size + 1 < x2.w.heap.size := by have := x2.out.size; simp at this; omega
      have s2 : w.heap.size + 2 < x2.w.heap.size := by have := x2.out.size; simp at this; omega
      refine wp_region_after_tail 7 (by kernel_rfl) (by kernel_rfl) ?_; simp only [List.take_succ_cons, List.take_zero, List.drop_succ_cons, List.drop_zero]; (repeat (first | go_big_quiet_step ((first | (go_at_call 74; exact quiet_after (HV.out _)) | (go_at_call 73; exact quiet_after_same (abs_any _ _ (by omega) (by omega))) | (go_at_call 69; exact quiet_after (HR.out _)))) | (refine wpQuiet_step (fun K hK => ?_); go_simp; first | (refine hK _ ?_; clear hK K) | (apply Exists.intro; refine ⟨fun x => ?_, hK _ ?_⟩; (first | (go_at_call 74; exact quiet_after (HV.out _)) | (go_at_call 73; exact quiet_after_same (abs_any _ _ (by omega) (by omega))) | (go_at_call 69; exact quiet_after (HR.out _))); clear hK K)))); refine wpQuiet_nil ?_
      intro x3
      go_wp2
      go_returns
      exact ⟨rfl, by (repeat' (first | (with_reducible exact Below.refl _ _) | (with_reducible assumption) | (with_reducible refine Below.alloc ?_ ?_ _) | (with_reducible refine Below.drew ?_) | (with_reducible refine below_drewN ?_ _) | (with_reducible refine Below.setCell ?_ ?_ _) | (with_reducible refine below_after ?_ ?_ _) | (with_reducible refine below_set ?_) | (with_reducible refine After.size_le _ ?_) | (with_reducible refine size_alloc_le ?_) | (with_reducible refine size_set_le ?_) | (with_reducible refine size_drewN_le ?_) | go_size))⟩
    · have HP := Lib.hid hp
      have e : disN a b d h x = 0 ∧ disD a b d h x = 0 ∧ disE a b d h x = 1 := by simp [disN, disD, disE, hp]
      rw [e.1, e.2.1, e.2.2]
      clear e hG hp
      go_enter Try.func32, Try.ntmps32
      go_wp2_with (first | (go_at_call 28; refine calls_after (validLine_t _ _ _ _ HG.out) ?_; intro x1) | (go_at_call 72; refine calls_after2 (validPoint_f _ _ _ HP.out) ?_; intro x2))
      go_returns
      exact ⟨rfl, by (repeat' (first | (with_reducible exact Below.refl _ _) | (with_reducible assumption) | (with_reducible refine Below.alloc ?_ ?_ _) | (with_reducible refine Below.drew ?_) | (with_reducible refine below_drewN ?_ _) | (with_reducible refine Below.setCell ?_ ?_ _) | (with_reducible refine below_after ?_ ?_ _) | (with_reducible refine below_set ?_) | (with_reducible refine After.size_le _ ?_) | (with_reducible refine size_alloc_le ?_) | (with_reducible refine size_set_le ?_) | (with_reducible refine size_drewN_le ?_) | go_size))⟩
  · have HG := Lib.hid hG
    have e : disN a b d h x = 0 ∧ disD a b d h x = 0 ∧ disE a b d h x = 1 := by simp [disN, disD, disE, hG]
    rw [e.1, e.2.1, e.2.2]
    clear e hG
    go_enter Try.func32, Try.ntmps32
    go_wp2_with (go_at_call 28; refine calls_after (validLine_f _ _ _ _ HG.out) ?_; intro x1)
    go_returns
    exact ⟨rfl, by (repeat' (first | (with_reducible exact Below.refl _ _) | (with_reducible assumption) | (with_reducible refine Below.alloc ?_ ?_ _) | (with_reducible refine Below.drew ?_) | (with_reducible refine below_drewN ?_ _) | (with_reducible refine Below.setCell ?_ ?_ _) | (with_reducible refine below_after ?_ ?_ _) | (with_reducible refine below_set ?_) | (with_reducible refine After.size_le _ ?_) | (with_reducible refine size_alloc_le ?_) | (with_reducible refine size_set_le ?_) | (with_reducible refine size_drewN_le ?_) | go_size))⟩

set_option maxRecDepth 100000 in
set_option maxHeartbeats 400000 in
theorem rdistance_any (a b d h x : Int) (w : World) :
    Calls Try.prog 33 #[.agg #[.int .i64 a, .int .i64 b, .int .i64 d], .agg #[.int .i64 h, .int .i64 x]] w fun e w' => e = .returned (.tuple #[.agg #[.int .i64 (disN a b d h x), .int .i64 (disD a b d h x)], .int .i64 (disE a b d h x)]) ∧ Below w.heap.size w w' := by
  by_cases hG : GoodLine a b d
  · have HG := Lib.hid hG
    by_cases hp : InPt h x
    · have HP := Lib.hid hp
      have e : disN a b d h x = ratN (offV a b d h x).natAbs d ∧ disD a b d h x = ratD (offV a b d h x).natAbs d ∧ disE a b d h x = 0 := by simp [disN, disD, disE, hG, hp]
      rw [e.1, e.2.1, e.2.2]
      have HV := Lib.hid (fun w => far_any a b d h x w hG.1 hp)
      have hv := offV_bd hG.1 hp
      have hI := hG.1
      unfold InBd at hI
      have HR := Lib.hid (fun w => rlowest_any ((offV a b d h x).natAbs : Nat) d w (by omega) (by omega) (by omega) (by omega))
      generalize offV a b d h x = v at *
      obtain ⟨v1, v2⟩ := hv
      clear e hG hI hp
      go_enter Try.func33, Try.ntmps33
      go_wp2_with (first | (go_at_call 29; refine calls_after (rvalidLine_t _ _ _ _ HG.out) ?_; intro x1) | (go_at_call 75; refine calls_after2 (rvalidPoint_t _ _ _ HP.out) ?_; intro x2))
      have s0 : w.heap.size < x2.w.heap.size := by have := x2.out.size; simp at this; omega
      have s1 : w.heap.size + 1 < x2.w.heap.size := by have := x2.out.size; simp at this; omega
      have s2 : w.heap.size + 2 < x2.w.heap.size := by have := x2.out.size; simp at this; omega
      refine wp_region_after_tail 6 (by kernel_rfl) (by kernel_rfl) ?_; simp only [List.take_succ_cons, List.take_zero, List.drop_succ_cons, List.drop_zero]; (repeat (first | go_big_quiet_step ((first | (go_at_call 76; exact quiet_after (HV.out _)) | (go_at_call 71; exact quiet_after (HR.out _)))) | (refine wpQuiet_step (fun K hK => ?_); go_simp; first | (refine hK _ ?_; clear hK K) | (apply Exists.intro; refine ⟨fun x => ?_, hK _ ?_⟩; (first | (go_at_call 76; exact quiet_after (HV.out _)) | (go_at_call 71; exact quiet_after (HR.out _))); clear hK K)))); refine wpQuiet_nil ?_
      intro x3
      go_wp2
      go_returns
      exact ⟨rfl, by (repeat' (first | (with_reducible exact Below.refl _ _) | (with_reducible assumption) | (with_reducible refine Below.alloc ?_ ?_ _) | (with_reducible refine Below.drew ?_) | (with_reducible refine below_drewN ?_ _) | (with_reducible refine Below.setCell ?_ ?_ _) | (with_reducible refine below_after ?_ ?_ _) | (with_reducible refine below_set ?_) | (with_reducible refine After.size_le _ ?_) | (with_reducible refine size_alloc_le ?_) | (with_reducible refine size_set_le ?_) | (with_reducible refine size_drewN_le ?_) | go_size))⟩
    · have HP := Lib.hid hp
      have e : disN a b d h x = 0 ∧ disD a b d h x = 0 ∧ disE a b d h x = 1 := by simp [disN, disD, disE, hp]
      rw [e.1, e.2.1, e.2.2]
      clear e hG hp
      go_enter Try.func33, Try.ntmps33
      go_wp2_with (first | (go_at_call 29; refine calls_after (rvalidLine_t _ _ _ _ HG.out) ?_; intro x1) | (go_at_call 75; refine calls_after2 (rvalidPoint_f _ _ _ HP.out) ?_; intro x2))
      go_returns
      exact ⟨rfl, by (repeat' (first | (with_reducible exact Below.refl _ _) | (with_reducible assumption) | (with_reducible refine Below.alloc ?_ ?_ _) | (with_reducible refine Below.drew ?_) | (with_reducible refine below_drewN ?_ _) | (with_reducible refine Below.setCell ?_ ?_ _) | (with_reducible refine below_after ?_ ?_ _) | (with_reducible refine below_set ?_) | (with_reducible refine After.size_le _ ?_) | (with_reducible refine size_alloc_le ?_) | (with_reducible refine size_set_le ?_) | (with_reducible refine size_drewN_le ?_) | go_size))⟩
  · have HG := Lib.hid hG
    have e : disN a b d h x = 0 ∧ disD a b d h x = 0 ∧ disE a b d h x = 1 := by simp [disN, disD, disE, hG]
    rw [e.1, e.2.1, e.2.2]
    clear e hG
    go_enter Try.func33, Try.ntmps33
    go_wp2_with (go_at_call 29; refine calls_after (rvalidLine_f _ _ _ _ HG.out) ?_; intro x1)
    go_returns
    exact ⟨rfl, by (repeat' (first | (with_reducible exact Below.refl _ _) | (with_reducible assumption) | (with_reducible refine Below.alloc ?_ ?_ _) | (with_reducible refine Below.drew ?_) | (with_reducible refine below_drewN ?_ _) | (with_reducible refine Below.setCell ?_ ?_ _) | (with_reducible refine below_after ?_ ?_ _) | (with_reducible refine below_set ?_) | (with_reducible refine After.size_le _ ?_) | (with_reducible refine size_alloc_le ?_) | (with_reducible refine size_set_le ?_) | (with_reducible refine size_drewN_le ?_) | go_size))⟩
end Go.Proofs.Ytdhobjflfhijjaa
