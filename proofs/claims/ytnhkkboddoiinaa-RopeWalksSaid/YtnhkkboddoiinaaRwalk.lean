/- Walk and Level in the reference. -/
import Derived.Test.YtnhkkboddoiinaaWalkm
import Derived.Test.YtnhkkboddoiinaaShares
namespace Go.Proofs.Ytnhkkboddoiinaa
open Go.RowKit
attribute [local go_sem] After.cell After.frozen After.lt After.le After.ne After.ne' After.set_eq After.size_set After.lt_add

theorem wa_val {s lim n lo hi : Int} {ps : List (Int × Int)} (h : GoodL s ps) (h' : Ld n ∧ Ld lim) (h1 : wkA s lim n ps = lo) (h2 : wkB s lim n ps = hi) (hx : lo ≤ hi) : waL s lim n ps = lo ∧ waH s lim n ps = hi ∧ waE s lim n ps = 0 := by
  have := wa_ok h h' (by rw [h1, h2]; exact hx)
  rw [h1, h2] at this
  exact ⟨this.2.1, this.2.2, this.1⟩
theorem wa_val8 {s lim n lo hi : Int} {ps : List (Int × Int)} (h : GoodL s ps) (h' : Ld n ∧ Ld lim) (h1 : wkA s lim n ps = lo) (h2 : wkB s lim n ps = hi) (hx : hi < lo) : waL s lim n ps = 0 ∧ waH s lim n ps = 0 ∧ waE s lim n ps = 8 := by
  have := wa_none h h' (by rw [h1, h2]; omega)
  exact ⟨this.2.1, this.2.2, this.1⟩

theorem div_bd {x n A : Int} (hn : 1 ≤ n) (h1 : -A ≤ x) (h2 : x ≤ A) (hA : 0 ≤ A) : -A ≤ x / n ∧ x / n ≤ A := by
  constructor
  · rw [Int.le_ediv_iff_mul_le (by omega)]
    have : A * 1 ≤ A * n := Int.mul_le_mul_of_nonneg_left hn hA
    rw [Int.neg_mul]
    omega
  · exact Int.le_trans (Int.ediv_le_ediv (by omega) h2) (Int.ediv_le_self _ hA)


set_option maxRecDepth 100000 in
set_option maxHeartbeats 1000000 in
theorem rwalk_any (s n lim : Int) (v : Value) (ps : List (Int × Int)) (w : World) (h : Prs w w.heap.size v ps) :
    Calls Try.prog 36 #[.int .i64 s, v, .int .i64 n, .int .i64 lim] w fun e w' => e = .returned (.tuple #[.int .i64 (waL s lim n ps), .int .i64 (waH s lim n ps), .int .i64 (waE s lim n ps)]) ∧ Below w.heap.size w w' := by
  by_cases hG : GoodL s ps
  · have HV : Hid (∀ W, Below w.heap.size w W → _) := fun W hW => rvalidLoads_b s v ps W true (by simp [hG]) (prs_on h hW)
    have HS : Hid (∀ W, Below w.heap.size w W → _) := fun W hW => levers_v s v ps W (prs_on h hW) hG
    by_cases hn : Ld n
    · by_cases hm : Ld lim
      · obtain ⟨b1, b2, b3, b4, _, _⟩ := all_bd hG
        obtain ⟨l1, l2⟩ := lim_bd hG.1 hm
        obtain ⟨s1, s2⟩ := hG.1
        have ha : wkA s lim n ps = wLo (fS s ps) n (lim * s) s := rfl
        have hb : wkB s lim n ps = wHi (sS ps) n (lim * s) s := rfl
        have HX : Hid (∀ lo hi, wkA s lim n ps = lo → wkB s lim n ps = hi → lo ≤ hi → waL s lim n ps = lo ∧ waH s lim n ps = hi ∧ waE s lim n ps = 0) := fun lo hi h1 h2 h3 => wa_val hG ⟨hn, hm⟩ h1 h2 h3
        have HY : Hid (∀ lo hi, wkA s lim n ps = lo → wkB s lim n ps = hi → hi < lo → waL s lim n ps = 0 ∧ waH s lim n ps = 0 ∧ waE s lim n ps = 8) := fun lo hi h1 h2 h3 => wa_val8 hG ⟨hn, hm⟩ h1 h2 h3
        clear h hG
        unfold wLo at ha
        unfold wHi at hb
        generalize waL s lim n ps = o1 at *
        generalize waH s lim n ps = o2 at *
        generalize waE s lim n ps = o3 at *
        generalize wkA s lim n ps = A at *
        generalize wkB s lim n ps = B at *
        generalize fS s ps = F at *
        generalize sS ps = T at *
        generalize aS ps = U at *
        have hL : Hid (∃ L, L = lim * s) := ⟨_, rfl⟩
        by_cases h0 : n = 0
        · rw [if_pos h0] at ha hb
          have d0 : (n == 0) = true := by simpa using h0
          clear h0
          by_cases c1 : F ≤ lim * s
          · rw [if_pos c1] at ha
            have d1 : decide (lim * s < F) = false := decide_eq_false (by omega)
            by_cases c2 : T ≤ lim * s
            · rw [if_pos c2] at hb
              have d2 : decide (lim * s < T) = false := decide_eq_false (by omega)
              obtain ⟨rfl, rfl, rfl⟩ := HX.out _ _ ha hb (by omega)
              clear HX HY ha hb
              go_enter Try.func36, Try.ntmps36
              go_wp2_with fail
              refine calls_after (HV.out _ (by (repeat' (first | (with_reducible exact Below.refl _ _) | (with_reducible assumption) | (with_reducible refine Below.alloc ?_ ?_ _) | (with_reducible refine Below.drew ?_) | (with_reducible refine below_drewN ?_ _) | (with_reducible refine Below.setCell ?_ ?_ _) | (with_reducible refine below_after ?_ ?_ _) | (with_reducible refine below_set ?_) | (with_reducible refine After.size_le _ ?_) | (with_reducible refine size_alloc_le ?_) | (with_reducible refine size_set_le ?_) | (with_reducible refine size_drewN_le ?_) | go_size)))) ?_
              intro x1
              go_wp2_with (go_at_call 67; first | (refine (rload_t n _ hn).mono ?_; rintro e w1 ⟨rfl, rfl⟩) | (refine (rload_t lim _ hm).mono ?_; rintro e w1 ⟨rfl, rfl⟩))
              refine calls_after2 (HS.out _ (by (repeat' (first | (with_reducible exact Below.refl _ _) | (with_reducible assumption) | (with_reducible refine Below.alloc ?_ ?_ _) | (with_reducible refine Below.drew ?_) | (with_reducible refine below_drewN ?_ _) | (with_reducible refine Below.setCell ?_ ?_ _) | (with_reducible refine below_after ?_ ?_ _) | (with_reducible refine below_set ?_) | (with_reducible refine After.size_le _ ?_) | (with_reducible refine size_alloc_le ?_) | (with_reducible refine size_set_le ?_) | (with_reducible refine size_drewN_le ?_) | go_size)))) ?_
              intro x2
              go_wp2
              go_returns
              exact ⟨rfl, by (repeat' (first | (with_reducible exact Below.refl _ _) | (with_reducible assumption) | (with_reducible refine Below.alloc ?_ ?_ _) | (with_reducible refine Below.drew ?_) | (with_reducible refine below_drewN ?_ _) | (with_reducible refine Below.setCell ?_ ?_ _) | (with_reducible refine below_after ?_ ?_ _) | (with_reducible refine below_set ?_) | (with_reducible refine After.size_le _ ?_) | (with_reducible refine size_alloc_le ?_) | (with_reducible refine size_set_le ?_) | (with_reducible refine size_drewN_le ?_) | go_size))⟩
            · rw [if_neg c2] at hb
              have d2 : decide (lim * s < T) = true := decide_eq_true (by omega)
              obtain ⟨rfl, rfl, rfl⟩ := HY.out _ _ ha hb (by omega)
              clear HX HY ha hb
              go_enter Try.func36, Try.ntmps36
              go_wp2_with fail
              refine calls_after (HV.out _ (by (repeat' (first | (with_reducible exact Below.refl _ _) | (with_reducible assumption) | (with_reducible refine Below.alloc ?_ ?_ _) | (with_reducible refine Below.drew ?_) | (with_reducible refine below_drewN ?_ _) | (with_reducible refine Below.setCell ?_ ?_ _) | (with_reducible refine below_after ?_ ?_ _) | (with_reducible refine below_set ?_) | (with_reducible refine After.size_le _ ?_) | (with_reducible refine size_alloc_le ?_) | (with_reducible refine size_set_le ?_) | (with_reducible refine size_drewN_le ?_) | go_size)))) ?_
              intro x1
              go_wp2_with (go_at_call 67; first | (refine (rload_t n _ hn).mono ?_; rintro e w1 ⟨rfl, rfl⟩) | (refine (rload_t lim _ hm).mono ?_; rintro e w1 ⟨rfl, rfl⟩))
              refine calls_after2 (HS.out _ (by (repeat' (first | (with_reducible exact Below.refl _ _) | (with_reducible assumption) | (with_reducible refine Below.alloc ?_ ?_ _) | (with_reducible refine Below.drew ?_) | (with_reducible refine below_drewN ?_ _) | (with_reducible refine Below.setCell ?_ ?_ _) | (with_reducible refine below_after ?_ ?_ _) | (with_reducible refine below_set ?_) | (with_reducible refine After.size_le _ ?_) | (with_reducible refine size_alloc_le ?_) | (with_reducible refine size_set_le ?_) | (with_reducible refine size_drewN_le ?_) | go_size)))) ?_
              intro x2
              go_wp2
              go_returns
              exact ⟨rfl, by (repeat' (first | (with_reducible exact Below.refl _ _) | (with_reducible assumption) | (with_reducible refine Below.alloc ?_ ?_ _) | (with_reducible refine Below.drew ?_) | (with_reducible refine below_drewN ?_ _) | (with_reducible refine Below.setCell ?_ ?_ _) | (with_reducible refine below_after ?_ ?_ _) | (with_reducible refine below_set ?_) | (with_reducible refine After.size_le _ ?_) | (with_reducible refine size_alloc_le ?_) | (with_reducible refine size_set_le ?_) | (with_reducible refine size_drewN_le ?_) | go_size))⟩
          · rw [if_neg c1] at ha
            have d1 : decide (lim * s < F) = true := decide_eq_true (by omega)
            obtain ⟨rfl, rfl, rfl⟩ := HY.out _ _ ha rfl (by split at hb <;> omega)
            clear HX HY ha hb
            go_enter Try.func36, Try.ntmps36
            go_wp2_with fail
            refine calls_after (HV.out _ (by (repeat' (first | (with_reducible exact Below.refl _ _) | (with_reducible assumption) | (with_reducible refine Below.alloc ?_ ?_ _) | (with_reducible refine Below.drew ?_) | (with_reducible refine below_drewN ?_ _) | (with_reducible refine Below.setCell ?_ ?_ _) | (with_reducible refine below_after ?_ ?_ _) | (with_reducible refine below_set ?_) | (with_reducible refine After.size_le _ ?_) | (with_reducible refine size_alloc_le ?_) | (with_reducible refine size_set_le ?_) | (with_reducible refine size_drewN_le ?_) | go_size)))) ?_
            intro x1
            go_wp2_with (go_at_call 67; first | (refine (rload_t n _ hn).mono ?_; rintro e w1 ⟨rfl, rfl⟩) | (refine (rload_t lim _ hm).mono ?_; rintro e w1 ⟨rfl, rfl⟩))
            refine calls_after2 (HS.out _ (by (repeat' (first | (with_reducible exact Below.refl _ _) | (with_reducible assumption) | (with_reducible refine Below.alloc ?_ ?_ _) | (with_reducible refine Below.drew ?_) | (with_reducible refine below_drewN ?_ _) | (with_reducible refine Below.setCell ?_ ?_ _) | (with_reducible refine below_after ?_ ?_ _) | (with_reducible refine below_set ?_) | (with_reducible refine After.size_le _ ?_) | (with_reducible refine size_alloc_le ?_) | (with_reducible refine size_set_le ?_) | (with_reducible refine size_drewN_le ?_) | go_size)))) ?_
            intro x2
            go_wp2
            go_returns
            exact ⟨rfl, by (repeat' (first | (with_reducible exact Below.refl _ _) | (with_reducible assumption) | (with_reducible refine Below.alloc ?_ ?_ _) | (with_reducible refine Below.drew ?_) | (with_reducible refine below_drewN ?_ _) | (with_reducible refine Below.setCell ?_ ?_ _) | (with_reducible refine below_after ?_ ?_ _) | (with_reducible refine below_set ?_) | (with_reducible refine After.size_le _ ?_) | (with_reducible refine size_alloc_le ?_) | (with_reducible refine size_set_le ?_) | (with_reducible refine size_drewN_le ?_) | go_size))⟩
        · rw [if_neg h0] at ha hb
          have d0 : (n == 0) = false := beq_eq_false_iff_ne.2 h0
          obtain ⟨n1, n2⟩ := hn
          have n1' : 1 ≤ n := by omega
          have HF1 := Lib.hid (fun W => floor_any (lim * s - F) n W (by omega) (by omega) (by omega) (by omega))
          have HF2 := Lib.hid (fun W => floor_any (lim * s - T) n W (by omega) (by omega) (by omega) (by omega))
          have hn : Ld n := ⟨n1, n2⟩
          have q1 := div_bd (x := lim * s - F) (A := 100000000000000) n1' (by omega) (by omega) (by omega)
          have q2 := div_bd (x := lim * s - T) (A := 100000000000000) n1' (by omega) (by omega) (by omega)
          obtain ⟨q3, q4⟩ := q1
          obtain ⟨q5, q6⟩ := q2
          generalize (lim * s - F) / n = X at *
          generalize (lim * s - T) / n = Y at *
          have h1m : -X + s ≤ 0 → A = 0 := fun h => by omega
          have h1p : 0 < -X + s → A = -X + s := fun h => by omega
          have h2m : s ≤ Y → B = s := fun h => by omega
          have h2p : Y < s → B = Y := fun h => by omega
          clear ha hb
          rcases Int.lt_or_le 0 (-X + s) with c1 | c1
          · have ha := h1p c1
            clear h1m h1p
            rcases Int.lt_or_le Y s with c2 | c2
            · have hb := h2p c2
              clear h2m h2p
              rcases Int.lt_or_le Y (-X + s) with c3 | c3
              · obtain ⟨rfl, rfl, rfl⟩ := HY.out (-X + s) Y ha hb c3
                clear HX HY
                go_enter Try.func36, Try.ntmps36
                go_wp2_with fail
                refine calls_after (HV.out _ (by (repeat' (first | (with_reducible exact Below.refl _ _) | (with_reducible assumption) | (with_reducible refine Below.alloc ?_ ?_ _) | (with_reducible refine Below.drew ?_) | (with_reducible refine below_drewN ?_ _) | (with_reducible refine Below.setCell ?_ ?_ _) | (with_reducible refine below_after ?_ ?_ _) | (with_reducible refine below_set ?_) | (with_reducible refine After.size_le _ ?_) | (with_reducible refine size_alloc_le ?_) | (with_reducible refine size_set_le ?_) | (with_reducible refine size_drewN_le ?_) | go_size)))) ?_
                intro x1
                go_wp2_with (go_at_call 67; first | (refine (rload_t n _ hn).mono ?_; rintro e w1 ⟨rfl, rfl⟩) | (refine (rload_t lim _ hm).mono ?_; rintro e w1 ⟨rfl, rfl⟩))
                refine calls_after2 (HS.out _ (by (repeat' (first | (with_reducible exact Below.refl _ _) | (with_reducible assumption) | (with_reducible refine Below.alloc ?_ ?_ _) | (with_reducible refine Below.drew ?_) | (with_reducible refine below_drewN ?_ _) | (with_reducible refine Below.setCell ?_ ?_ _) | (with_reducible refine below_after ?_ ?_ _) | (with_reducible refine below_set ?_) | (with_reducible refine After.size_le _ ?_) | (with_reducible refine size_alloc_le ?_) | (with_reducible refine size_set_le ?_) | (with_reducible refine size_drewN_le ?_) | go_size)))) ?_
                intro x2
                go_wp2_with fail
                refine calls_after2 (HF1.out _) ?_
                intro x3
                go_wp2_with fail
                refine calls_after2 (HF2.out _) ?_
                intro x4
                go_wp2
                go_returns
                exact ⟨rfl, by (repeat' (first | (with_reducible exact Below.refl _ _) | (with_reducible assumption) | (with_reducible refine Below.alloc ?_ ?_ _) | (with_reducible refine Below.drew ?_) | (with_reducible refine below_drewN ?_ _) | (with_reducible refine Below.setCell ?_ ?_ _) | (with_reducible refine below_after ?_ ?_ _) | (with_reducible refine below_set ?_) | (with_reducible refine After.size_le _ ?_) | (with_reducible refine size_alloc_le ?_) | (with_reducible refine size_set_le ?_) | (with_reducible refine size_drewN_le ?_) | go_size))⟩
              · obtain ⟨rfl, rfl, rfl⟩ := HX.out (-X + s) Y ha hb c3
                clear HX HY
                go_enter Try.func36, Try.ntmps36
                go_wp2_with fail
                refine calls_after (HV.out _ (by (repeat' (first | (with_reducible exact Below.refl _ _) | (with_reducible assumption) | (with_reducible refine Below.alloc ?_ ?_ _) | (with_reducible refine Below.drew ?_) | (with_reducible refine below_drewN ?_ _) | (with_reducible refine Below.setCell ?_ ?_ _) | (with_reducible refine below_after ?_ ?_ _) | (with_reducible refine below_set ?_) | (with_reducible refine After.size_le _ ?_) | (with_reducible refine size_alloc_le ?_) | (with_reducible refine size_set_le ?_) | (with_reducible refine size_drewN_le ?_) | go_size)))) ?_
                intro x1
                go_wp2_with (go_at_call 67; first | (refine (rload_t n _ hn).mono ?_; rintro e w1 ⟨rfl, rfl⟩) | (refine (rload_t lim _ hm).mono ?_; rintro e w1 ⟨rfl, rfl⟩))
                refine calls_after2 (HS.out _ (by (repeat' (first | (with_reducible exact Below.refl _ _) | (with_reducible assumption) | (with_reducible refine Below.alloc ?_ ?_ _) | (with_reducible refine Below.drew ?_) | (with_reducible refine below_drewN ?_ _) | (with_reducible refine Below.setCell ?_ ?_ _) | (with_reducible refine below_after ?_ ?_ _) | (with_reducible refine below_set ?_) | (with_reducible refine After.size_le _ ?_) | (with_reducible refine size_alloc_le ?_) | (with_reducible refine size_set_le ?_) | (with_reducible refine size_drewN_le ?_) | go_size)))) ?_
                intro x2
                go_wp2_with fail
                refine calls_after2 (HF1.out _) ?_
                intro x3
                go_wp2_with fail
                refine calls_after2 (HF2.out _) ?_
                intro x4
                go_wp2
                go_returns
                exact ⟨rfl, by (repeat' (first | (with_reducible exact Below.refl _ _) | (with_reducible assumption) | (with_reducible refine Below.alloc ?_ ?_ _) | (with_reducible refine Below.drew ?_) | (with_reducible refine below_drewN ?_ _) | (with_reducible refine Below.setCell ?_ ?_ _) | (with_reducible refine below_after ?_ ?_ _) | (with_reducible refine below_set ?_) | (with_reducible refine After.size_le _ ?_) | (with_reducible refine size_alloc_le ?_) | (with_reducible refine size_set_le ?_) | (with_reducible refine size_drewN_le ?_) | go_size))⟩
            · have hb := h2m c2
              clear h2m h2p
              rcases Int.lt_or_le s (-X + s) with c3 | c3
              · obtain ⟨rfl, rfl, rfl⟩ := HY.out (-X + s) s ha hb c3
                clear HX HY
                go_enter Try.func36, Try.ntmps36
                go_wp2_with fail
                refine calls_after (HV.out _ (by (repeat' (first | (with_reducible exact Below.refl _ _) | (with_reducible assumption) | (with_reducible refine Below.alloc ?_ ?_ _) | (with_reducible refine Below.drew ?_) | (with_reducible refine below_drewN ?_ _) | (with_reducible refine Below.setCell ?_ ?_ _) | (with_reducible refine below_after ?_ ?_ _) | (with_reducible refine below_set ?_) | (with_reducible refine After.size_le _ ?_) | (with_reducible refine size_alloc_le ?_) | (with_reducible refine size_set_le ?_) | (with_reducible refine size_drewN_le ?_) | go_size)))) ?_
                intro x1
                go_wp2_with (go_at_call 67; first | (refine (rload_t n _ hn).mono ?_; rintro e w1 ⟨rfl, rfl⟩) | (refine (rload_t lim _ hm).mono ?_; rintro e w1 ⟨rfl, rfl⟩))
                refine calls_after2 (HS.out _ (by (repeat' (first | (with_reducible exact Below.refl _ _) | (with_reducible assumption) | (with_reducible refine Below.alloc ?_ ?_ _) | (with_reducible refine Below.drew ?_) | (with_reducible refine below_drewN ?_ _) | (with_reducible refine Below.setCell ?_ ?_ _) | (with_reducible refine below_after ?_ ?_ _) | (with_reducible refine below_set ?_) | (with_reducible refine After.size_le _ ?_) | (with_reducible refine size_alloc_le ?_) | (with_reducible refine size_set_le ?_) | (with_reducible refine size_drewN_le ?_) | go_size)))) ?_
                intro x2
                go_wp2_with fail
                refine calls_after2 (HF1.out _) ?_
                intro x3
                go_wp2_with fail
                refine calls_after2 (HF2.out _) ?_
                intro x4
                go_wp2
                go_returns
                exact ⟨rfl, by (repeat' (first | (with_reducible exact Below.refl _ _) | (with_reducible assumption) | (with_reducible refine Below.alloc ?_ ?_ _) | (with_reducible refine Below.drew ?_) | (with_reducible refine below_drewN ?_ _) | (with_reducible refine Below.setCell ?_ ?_ _) | (with_reducible refine below_after ?_ ?_ _) | (with_reducible refine below_set ?_) | (with_reducible refine After.size_le _ ?_) | (with_reducible refine size_alloc_le ?_) | (with_reducible refine size_set_le ?_) | (with_reducible refine size_drewN_le ?_) | go_size))⟩
              · obtain ⟨rfl, rfl, rfl⟩ := HX.out (-X + s) s ha hb c3
                clear HX HY
                go_enter Try.func36, Try.ntmps36
                go_wp2_with fail
                refine calls_after (HV.out _ (by (repeat' (first | (with_reducible exact Below.refl _ _) | (with_reducible assumption) | (with_reducible refine Below.alloc ?_ ?_ _) | (with_reducible refine Below.drew ?_) | (with_reducible refine below_drewN ?_ _) | (with_reducible refine Below.setCell ?_ ?_ _) | (with_reducible refine below_after ?_ ?_ _) | (with_reducible refine below_set ?_) | (with_reducible refine After.size_le _ ?_) | (with_reducible refine size_alloc_le ?_) | (with_reducible refine size_set_le ?_) | (with_reducible refine size_drewN_le ?_) | go_size)))) ?_
                intro x1
                go_wp2_with (go_at_call 67; first | (refine (rload_t n _ hn).mono ?_; rintro e w1 ⟨rfl, rfl⟩) | (refine (rload_t lim _ hm).mono ?_; rintro e w1 ⟨rfl, rfl⟩))
                refine calls_after2 (HS.out _ (by (repeat' (first | (with_reducible exact Below.refl _ _) | (with_reducible assumption) | (with_reducible refine Below.alloc ?_ ?_ _) | (with_reducible refine Below.drew ?_) | (with_reducible refine below_drewN ?_ _) | (with_reducible refine Below.setCell ?_ ?_ _) | (with_reducible refine below_after ?_ ?_ _) | (with_reducible refine below_set ?_) | (with_reducible refine After.size_le _ ?_) | (with_reducible refine size_alloc_le ?_) | (with_reducible refine size_set_le ?_) | (with_reducible refine size_drewN_le ?_) | go_size)))) ?_
                intro x2
                go_wp2_with fail
                refine calls_after2 (HF1.out _) ?_
                intro x3
                go_wp2_with fail
                refine calls_after2 (HF2.out _) ?_
                intro x4
                go_wp2
                go_returns
                exact ⟨rfl, by (repeat' (first | (with_reducible exact Below.refl _ _) | (with_reducible assumption) | (with_reducible refine Below.alloc ?_ ?_ _) | (with_reducible refine Below.drew ?_) | (with_reducible refine below_drewN ?_ _) | (with_reducible refine Below.setCell ?_ ?_ _) | (with_reducible refine below_after ?_ ?_ _) | (with_reducible refine below_set ?_) | (with_reducible refine After.size_le _ ?_) | (with_reducible refine size_alloc_le ?_) | (with_reducible refine size_set_le ?_) | (with_reducible refine size_drewN_le ?_) | go_size))⟩
          · have ha := h1m c1
            clear h1m h1p
            rcases Int.lt_or_le Y s with c2 | c2
            · have hb := h2p c2
              clear h2m h2p
              rcases Int.lt_or_le Y 0 with c3 | c3
              · obtain ⟨rfl, rfl, rfl⟩ := HY.out 0 Y ha hb c3
                clear HX HY
                go_enter Try.func36, Try.ntmps36
                go_wp2_with fail
                refine calls_after (HV.out _ (by (repeat' (first | (with_reducible exact Below.refl _ _) | (with_reducible assumption) | (with_reducible refine Below.alloc ?_ ?_ _) | (with_reducible refine Below.drew ?_) | (with_reducible refine below_drewN ?_ _) | (with_reducible refine Below.setCell ?_ ?_ _) | (with_reducible refine below_after ?_ ?_ _) | (with_reducible refine below_set ?_) | (with_reducible refine After.size_le _ ?_) | (with_reducible refine size_alloc_le ?_) | (with_reducible refine size_set_le ?_) | (with_reducible refine size_drewN_le ?_) | go_size)))) ?_
                intro x1
                go_wp2_with (go_at_call 67; first | (refine (rload_t n _ hn).mono ?_; rintro e w1 ⟨rfl, rfl⟩) | (refine (rload_t lim _ hm).mono ?_; rintro e w1 ⟨rfl, rfl⟩))
                refine calls_after2 (HS.out _ (by (repeat' (first | (with_reducible exact Below.refl _ _) | (with_reducible assumption) | (with_reducible refine Below.alloc ?_ ?_ _) | (with_reducible refine Below.drew ?_) | (with_reducible refine below_drewN ?_ _) | (with_reducible refine Below.setCell ?_ ?_ _) | (with_reducible refine below_after ?_ ?_ _) | (with_reducible refine below_set ?_) | (with_reducible refine After.size_le _ ?_) | (with_reducible refine size_alloc_le ?_) | (with_reducible refine size_set_le ?_) | (with_reducible refine size_drewN_le ?_) | go_size)))) ?_
                intro x2
                go_wp2_with fail
                refine calls_after2 (HF1.out _) ?_
                intro x3
                go_wp2_with fail
                refine calls_after2 (HF2.out _) ?_
                intro x4
                go_wp2
                go_returns
                exact ⟨rfl, by (repeat' (first | (with_reducible exact Below.refl _ _) | (with_reducible assumption) | (with_reducible refine Below.alloc ?_ ?_ _) | (with_reducible refine Below.drew ?_) | (with_reducible refine below_drewN ?_ _) | (with_reducible refine Below.setCell ?_ ?_ _) | (with_reducible refine below_after ?_ ?_ _) | (with_reducible refine below_set ?_) | (with_reducible refine After.size_le _ ?_) | (with_reducible refine size_alloc_le ?_) | (with_reducible refine size_set_le ?_) | (with_reducible refine size_drewN_le ?_) | go_size))⟩
              · obtain ⟨rfl, rfl, rfl⟩ := HX.out 0 Y ha hb c3
                clear HX HY
                go_enter Try.func36, Try.ntmps36
                go_wp2_with fail
                refine calls_after (HV.out _ (by (repeat' (first | (with_reducible exact Below.refl _ _) | (with_reducible assumption) | (with_reducible refine Below.alloc ?_ ?_ _) | (with_reducible refine Below.drew ?_) | (with_reducible refine below_drewN ?_ _) | (with_reducible refine Below.setCell ?_ ?_ _) | (with_reducible refine below_after ?_ ?_ _) | (with_reducible refine below_set ?_) | (with_reducible refine After.size_le _ ?_) | (with_reducible refine size_alloc_le ?_) | (with_reducible refine size_set_le ?_) | (with_reducible refine size_drewN_le ?_) | go_size)))) ?_
                intro x1
                go_wp2_with (go_at_call 67; first | (refine (rload_t n _ hn).mono ?_; rintro e w1 ⟨rfl, rfl⟩) | (refine (rload_t lim _ hm).mono ?_; rintro e w1 ⟨rfl, rfl⟩))
                refine calls_after2 (HS.out _ (by (repeat' (first | (with_reducible exact Below.refl _ _) | (with_reducible assumption) | (with_reducible refine Below.alloc ?_ ?_ _) | (with_reducible refine Below.drew ?_) | (with_reducible refine below_drewN ?_ _) | (with_reducible refine Below.setCell ?_ ?_ _) | (with_reducible refine below_after ?_ ?_ _) | (with_reducible refine below_set ?_) | (with_reducible refine After.size_le _ ?_) | (with_reducible refine size_alloc_le ?_) | (with_reducible refine size_set_le ?_) | (with_reducible refine size_drewN_le ?_) | go_size)))) ?_
                intro x2
                go_wp2_with fail
                refine calls_after2 (HF1.out _) ?_
                intro x3
                go_wp2_with fail
                refine calls_after2 (HF2.out _) ?_
                intro x4
                go_wp2
                go_returns
                exact ⟨rfl, by (repeat' (first | (with_reducible exact Below.refl _ _) | (with_reducible assumption) | (with_reducible refine Below.alloc ?_ ?_ _) | (with_reducible refine Below.drew ?_) | (with_reducible refine below_drewN ?_ _) | (with_reducible refine Below.setCell ?_ ?_ _) | (with_reducible refine below_after ?_ ?_ _) | (with_reducible refine below_set ?_) | (with_reducible refine After.size_le _ ?_) | (with_reducible refine size_alloc_le ?_) | (with_reducible refine size_set_le ?_) | (with_reducible refine size_drewN_le ?_) | go_size))⟩
            · have hb := h2m c2
              clear h2m h2p
              rcases Int.lt_or_le s 0 with c3 | c3
              · omega
              · obtain ⟨rfl, rfl, rfl⟩ := HX.out 0 s ha hb c3
                clear HX HY
                go_enter Try.func36, Try.ntmps36
                go_wp2_with fail
                refine calls_after (HV.out _ (by (repeat' (first | (with_reducible exact Below.refl _ _) | (with_reducible assumption) | (with_reducible refine Below.alloc ?_ ?_ _) | (with_reducible refine Below.drew ?_) | (with_reducible refine below_drewN ?_ _) | (with_reducible refine Below.setCell ?_ ?_ _) | (with_reducible refine below_after ?_ ?_ _) | (with_reducible refine below_set ?_) | (with_reducible refine After.size_le _ ?_) | (with_reducible refine size_alloc_le ?_) | (with_reducible refine size_set_le ?_) | (with_reducible refine size_drewN_le ?_) | go_size)))) ?_
                intro x1
                go_wp2_with (go_at_call 67; first | (refine (rload_t n _ hn).mono ?_; rintro e w1 ⟨rfl, rfl⟩) | (refine (rload_t lim _ hm).mono ?_; rintro e w1 ⟨rfl, rfl⟩))
                refine calls_after2 (HS.out _ (by (repeat' (first | (with_reducible exact Below.refl _ _) | (with_reducible assumption) | (with_reducible refine Below.alloc ?_ ?_ _) | (with_reducible refine Below.drew ?_) | (with_reducible refine below_drewN ?_ _) | (with_reducible refine Below.setCell ?_ ?_ _) | (with_reducible refine below_after ?_ ?_ _) | (with_reducible refine below_set ?_) | (with_reducible refine After.size_le _ ?_) | (with_reducible refine size_alloc_le ?_) | (with_reducible refine size_set_le ?_) | (with_reducible refine size_drewN_le ?_) | go_size)))) ?_
                intro x2
                go_wp2_with fail
                refine calls_after2 (HF1.out _) ?_
                intro x3
                go_wp2_with fail
                refine calls_after2 (HF2.out _) ?_
                intro x4
                go_wp2
                go_returns
                exact ⟨rfl, by (repeat' (first | (with_reducible exact Below.refl _ _) | (with_reducible assumption) | (with_reducible refine Below.alloc ?_ ?_ _) | (with_reducible refine Below.drew ?_) | (with_reducible refine below_drewN ?_ _) | (with_reducible refine Below.setCell ?_ ?_ _) | (with_reducible refine below_after ?_ ?_ _) | (with_reducible refine below_set ?_) | (with_reducible refine After.size_le _ ?_) | (with_reducible refine size_alloc_le ?_) | (with_reducible refine size_set_le ?_) | (with_reducible refine size_drewN_le ?_) | go_size))⟩
      · obtain ⟨e1, e2, e3⟩ := wa_range hG (fun h => hm h.2 : ¬ (Ld n ∧ Ld lim))
        rw [e1, e2, e3]
        clear h hG e1 e2 e3 HS
        go_enter Try.func36, Try.ntmps36
        go_wp2_with fail
        refine calls_after (HV.out _ (by (repeat' (first | (with_reducible exact Below.refl _ _) | (with_reducible assumption) | (with_reducible refine Below.alloc ?_ ?_ _) | (with_reducible refine Below.drew ?_) | (with_reducible refine below_drewN ?_ _) | (with_reducible refine Below.setCell ?_ ?_ _) | (with_reducible refine below_after ?_ ?_ _) | (with_reducible refine below_set ?_) | (with_reducible refine After.size_le _ ?_) | (with_reducible refine size_alloc_le ?_) | (with_reducible refine size_set_le ?_) | (with_reducible refine size_drewN_le ?_) | go_size)))) ?_
        intro x1
        go_wp2_with (go_at_call 67; first | (refine (rload_t n _ hn).mono ?_; rintro e w1 ⟨rfl, rfl⟩) | (refine (rload_f lim _ hm).mono ?_; rintro e w1 ⟨rfl, rfl⟩))
        go_returns
        exact ⟨rfl, by (repeat' (first | (with_reducible exact Below.refl _ _) | (with_reducible assumption) | (with_reducible refine Below.alloc ?_ ?_ _) | (with_reducible refine Below.drew ?_) | (with_reducible refine below_drewN ?_ _) | (with_reducible refine Below.setCell ?_ ?_ _) | (with_reducible refine below_after ?_ ?_ _) | (with_reducible refine below_set ?_) | (with_reducible refine After.size_le _ ?_) | (with_reducible refine size_alloc_le ?_) | (with_reducible refine size_set_le ?_) | (with_reducible refine size_drewN_le ?_) | go_size))⟩
    · obtain ⟨e1, e2, e3⟩ := wa_range hG (fun h => hn h.1 : ¬ (Ld n ∧ Ld lim))
      rw [e1, e2, e3]
      clear h hG e1 e2 e3 HS
      go_enter Try.func36, Try.ntmps36
      go_wp2_with fail
      refine calls_after (HV.out _ (by (repeat' (first | (with_reducible exact Below.refl _ _) | (with_reducible assumption) | (with_reducible refine Below.alloc ?_ ?_ _) | (with_reducible refine Below.drew ?_) | (with_reducible refine below_drewN ?_ _) | (with_reducible refine Below.setCell ?_ ?_ _) | (with_reducible refine below_after ?_ ?_ _) | (with_reducible refine below_set ?_) | (with_reducible refine After.size_le _ ?_) | (with_reducible refine size_alloc_le ?_) | (with_reducible refine size_set_le ?_) | (with_reducible refine size_drewN_le ?_) | go_size)))) ?_
      intro x1
      go_wp2_with (go_at_call 67; refine (rload_f n _ hn).mono ?_; rintro e w1 ⟨rfl, rfl⟩)
      go_returns
      exact ⟨rfl, by (repeat' (first | (with_reducible exact Below.refl _ _) | (with_reducible assumption) | (with_reducible refine Below.alloc ?_ ?_ _) | (with_reducible refine Below.drew ?_) | (with_reducible refine below_drewN ?_ _) | (with_reducible refine Below.setCell ?_ ?_ _) | (with_reducible refine below_after ?_ ?_ _) | (with_reducible refine below_set ?_) | (with_reducible refine After.size_le _ ?_) | (with_reducible refine size_alloc_le ?_) | (with_reducible refine size_set_le ?_) | (with_reducible refine size_drewN_le ?_) | go_size))⟩
  · obtain ⟨e1, e2, e3⟩ := wa_bad (s := s) (lim := lim) (n := n) hG
    rw [e1, e2, e3]
    have HV : Hid (∀ W, Below w.heap.size w W → _) := fun W hW => rvalidLoads_b s v ps W false (by simp [hG]) (prs_on h hW)
    clear h hG e1 e2 e3
    go_enter Try.func36, Try.ntmps36
    go_wp2_with fail
    refine calls_after (HV.out _ (by (repeat' (first | (with_reducible exact Below.refl _ _) | (with_reducible assumption) | (with_reducible refine Below.alloc ?_ ?_ _) | (with_reducible refine Below.drew ?_) | (with_reducible refine below_drewN ?_ _) | (with_reducible refine Below.setCell ?_ ?_ _) | (with_reducible refine below_after ?_ ?_ _) | (with_reducible refine below_set ?_) | (with_reducible refine After.size_le _ ?_) | (with_reducible refine size_alloc_le ?_) | (with_reducible refine size_set_le ?_) | (with_reducible refine size_drewN_le ?_) | go_size)))) ?_
    intro x1
    go_wp2
    go_returns
    exact ⟨rfl, by (repeat' (first | (with_reducible exact Below.refl _ _) | (with_reducible assumption) | (with_reducible refine Below.alloc ?_ ?_ _) | (with_reducible refine Below.drew ?_) | (with_reducible refine below_drewN ?_ _) | (with_reducible refine Below.setCell ?_ ?_ _) | (with_reducible refine below_after ?_ ?_ _) | (with_reducible refine below_set ?_) | (with_reducible refine After.size_le _ ?_) | (with_reducible refine size_alloc_le ?_) | (with_reducible refine size_set_le ?_) | (with_reducible refine size_drewN_le ?_) | go_size))⟩
end Go.Proofs.Ytnhkkboddoiinaa
