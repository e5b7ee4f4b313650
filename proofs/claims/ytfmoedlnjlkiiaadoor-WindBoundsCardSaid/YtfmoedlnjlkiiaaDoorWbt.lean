/- Bounds in the program: tallies. -/
import Derived.Test.YtfmoedlnjlkiiaaDoorWbm
import Derived.Test.YtfmoedlnjlkiiaaDoorWdi
namespace Go.Proofs.YtfmoedlnjlkiiaaDoor
open Go.RowKit
attribute [local go_sem] After.cell After.frozen After.lt After.le After.ne After.ne' After.set_eq After.size_set After.lt_add

def tyc : Ty → Bool
  | none => false
  | some _ => true
def ty1 : Ty → Int
  | none => 0
  | some p => p.1
def ty2 : Ty → Int
  | none => 0
  | some p => p.2
def tyV (t : Ty) : Value := .agg #[.bool (tyc t), .int .i64 (ty1 t), .int .i64 (ty2 t)]
theorem or_any (t u : Ty) (w : World) :
    Calls Tryd.prog 84 #[tyV t, tyV u] w fun e w' => e = .returned (tyV (orT t u)) ∧ Below w.heap.size w w' := by
  unfold tyV
  cases t with
  | none =>
    generalize hc : tyc u = a
    generalize h1 : ty1 u = b
    generalize h2 : ty2 u = c
    show Calls Tryd.prog 84 #[.agg #[.bool false, .int .i64 0, .int .i64 0], _] w fun e w' => e = .returned (.agg #[.bool (tyc u), .int .i64 (ty1 u), .int .i64 (ty2 u)]) ∧ _
    rw [hc, h1, h2]
    clear hc h1 h2
    go_enter Tryd.func84, Tryd.ntmps84
    go_wp2
    go_returns
    exact ⟨rfl, by (repeat' (first | (with_reducible exact Below.refl _ _) | (with_reducible assumption) | (with_reducible refine Below.alloc ?_ ?_ _) | (with_reducible refine Below.drew ?_) | (with_reducible refine below_drewN ?_ _) | (with_reducible refine Below.setCell ?_ ?_ _) | (with_reducible refine below_after ?_ ?_ _) | (with_reducible refine below_set ?_) | (with_reducible refine After.size_le _ ?_) | (with_reducible refine size_alloc_le ?_) | (with_reducible refine size_set_le ?_) | (with_reducible refine size_drewN_le ?_) | go_size))⟩
  | some p =>
    obtain ⟨p1, p2⟩ := p
    cases u with
    | none =>
      show Calls Tryd.prog 84 #[.agg #[.bool true, .int .i64 p1, .int .i64 p2], .agg #[.bool false, .int .i64 0, .int .i64 0]] w fun e w' => e = .returned (.agg #[.bool true, .int .i64 p1, .int .i64 p2]) ∧ _
      go_enter Tryd.func84, Tryd.ntmps84
      go_wp2
      go_returns
      exact ⟨rfl, by (repeat' (first | (with_reducible exact Below.refl _ _) | (with_reducible assumption) | (with_reducible refine Below.alloc ?_ ?_ _) | (with_reducible refine Below.drew ?_) | (with_reducible refine below_drewN ?_ _) | (with_reducible refine Below.setCell ?_ ?_ _) | (with_reducible refine below_after ?_ ?_ _) | (with_reducible refine below_set ?_) | (with_reducible refine After.size_le _ ?_) | (with_reducible refine size_alloc_le ?_) | (with_reducible refine size_set_le ?_) | (with_reducible refine size_drewN_le ?_) | go_size))⟩
    | some q =>
      obtain ⟨q1, q2⟩ := q
      show Calls Tryd.prog 84 #[.agg #[.bool true, .int .i64 p1, .int .i64 p2], .agg #[.bool true, .int .i64 q1, .int .i64 q2]] w fun e w' => e = .returned (.agg #[.bool true, .int .i64 (min p1 q1), .int .i64 (max p2 q2)]) ∧ _
      go_enter Tryd.func84, Tryd.ntmps84
      go_wp2
      all_goals
        go_returns
        refine ⟨?_, by (repeat' (first | (with_reducible exact Below.refl _ _) | (with_reducible assumption) | (with_reducible refine Below.alloc ?_ ?_ _) | (with_reducible refine Below.drew ?_) | (with_reducible refine below_drewN ?_ _) | (with_reducible refine Below.setCell ?_ ?_ _) | (with_reducible refine below_after ?_ ?_ _) | (with_reducible refine below_set ?_) | (with_reducible refine After.size_le _ ?_) | (with_reducible refine size_alloc_le ?_) | (with_reducible refine size_set_le ?_) | (with_reducible refine size_drewN_le ?_) | go_size))⟩
        simp only [Int.min_def, Int.max_def]
        split <;> split <;> first | rfl | (exfalso; omega) | exact congrArg (fun z => Ending.returned (Value.agg #[Value.bool true, Value.int IntKind.i64 _, Value.int IntKind.i64 z])) (show p2 = q2 by omega)
theorem goes1_any (v v' : Int) (w : World) :
    Calls Tryd.prog 77 #[.agg #[.int .i64 v, .int .i64 v']] w fun e w' => e = .returned (.bool (decide (v = 0) && decide (v' = 0))) ∧ Below w.heap.size w w' := by
  by_cases h : v = 0
  · subst h
    by_cases h' : v' = 0
    · subst h'
      go_enter Tryd.func77, Tryd.ntmps77
      go_wp2
      go_ret
      exact ⟨rfl, by (repeat' (first | (with_reducible exact Below.refl _ _) | (with_reducible assumption) | (with_reducible refine Below.alloc ?_ ?_ _) | (with_reducible refine Below.drew ?_) | (with_reducible refine below_drewN ?_ _) | (with_reducible refine Below.setCell ?_ ?_ _) | (with_reducible refine below_after ?_ ?_ _) | (with_reducible refine below_set ?_) | (with_reducible refine After.size_le _ ?_) | (with_reducible refine size_alloc_le ?_) | (with_reducible refine size_set_le ?_) | (with_reducible refine size_drewN_le ?_) | go_size))⟩
    · have h1 : (v' == 0) = false := beq_eq_false_iff_ne.2 h'
      have e : (decide ((0 : Int) = 0) && decide (v' = 0)) = false := by simp [h']
      rw [e]
      clear e h'
      go_enter Tryd.func77, Tryd.ntmps77
      go_wp2
      go_ret
      exact ⟨by simp, by (repeat' (first | (with_reducible exact Below.refl _ _) | (with_reducible assumption) | (with_reducible refine Below.alloc ?_ ?_ _) | (with_reducible refine Below.drew ?_) | (with_reducible refine below_drewN ?_ _) | (with_reducible refine Below.setCell ?_ ?_ _) | (with_reducible refine below_after ?_ ?_ _) | (with_reducible refine below_set ?_) | (with_reducible refine After.size_le _ ?_) | (with_reducible refine size_alloc_le ?_) | (with_reducible refine size_set_le ?_) | (with_reducible refine size_drewN_le ?_) | go_size))⟩
  · have h1 : (v == 0) = false := beq_eq_false_iff_ne.2 h
    have e : (decide (v = 0) && decide (v' = 0)) = false := by simp [h]
    rw [e]
    clear e h
    go_enter Tryd.func77, Tryd.ntmps77
    go_wp2
    go_ret
    exact ⟨rfl, by (repeat' (first | (with_reducible exact Below.refl _ _) | (with_reducible assumption) | (with_reducible refine Below.alloc ?_ ?_ _) | (with_reducible refine Below.drew ?_) | (with_reducible refine below_drewN ?_ _) | (with_reducible refine Below.setCell ?_ ?_ _) | (with_reducible refine below_after ?_ ?_ _) | (with_reducible refine below_set ?_) | (with_reducible refine After.size_le _ ?_) | (with_reducible refine size_alloc_le ?_) | (with_reducible refine size_set_le ?_) | (with_reducible refine size_drewN_le ?_) | go_size))⟩
theorem with_any (p1 p2 v v' : Int) (w : World) (h1 : 0 ≤ p1 ∧ p1 ≤ 1000000) (h2 : 0 ≤ p2 ∧ p2 ≤ 1000000) :
    Calls Tryd.prog 94 #[.agg #[.bool true, .int .i64 p1, .int .i64 p2], .agg #[.int .i64 v, .int .i64 v']] w fun e w' => e = .returned (.agg #[.bool true, .int .i64 (p1 + goD v v'), .int .i64 (p2 + goD v v')]) ∧ Below w.heap.size w w' := by
  have HG := Lib.hid (fun W => goes1_any v v' W)
  have e1 : (decide (v = 0) && decide (v' = 0)) = true ↔ v = 0 ∧ v' = 0 := by simp
  obtain ⟨a1, a2⟩ := h1
  obtain ⟨b1, b2⟩ := h2
  unfold goD
  by_cases h : v = 0 ∧ v' = 0
  · rw [if_pos h]
    rw [e1.2 h] at HG
    clear e1 h
    go_enter Tryd.func94, Tryd.ntmps94
    go_wp2_with fail
    refine calls_after (HG.out _) ?_
    intro x1
    go_wp2
    go_returns
    exact ⟨rfl, by (repeat' (first | (with_reducible exact Below.refl _ _) | (with_reducible assumption) | (with_reducible refine Below.alloc ?_ ?_ _) | (with_reducible refine Below.drew ?_) | (with_reducible refine below_drewN ?_ _) | (with_reducible refine Below.setCell ?_ ?_ _) | (with_reducible refine below_after ?_ ?_ _) | (with_reducible refine below_set ?_) | (with_reducible refine After.size_le _ ?_) | (with_reducible refine size_alloc_le ?_) | (with_reducible refine size_set_le ?_) | (with_reducible refine size_drewN_le ?_) | go_size))⟩
  · rw [if_neg h]
    rw [Bool.eq_false_iff.2 (fun e => h (e1.1 e))] at HG
    rw [Int.add_zero, Int.add_zero]
    clear e1 h
    go_enter Tryd.func94, Tryd.ntmps94
    go_wp2_with fail
    refine calls_after (HG.out _) ?_
    intro x1
    go_wp2
    go_returns
    exact ⟨rfl, by (repeat' (first | (with_reducible exact Below.refl _ _) | (with_reducible assumption) | (with_reducible refine Below.alloc ?_ ?_ _) | (with_reducible refine Below.drew ?_) | (with_reducible refine below_drewN ?_ _) | (with_reducible refine Below.setCell ?_ ?_ _) | (with_reducible refine below_after ?_ ?_ _) | (with_reducible refine below_set ?_) | (with_reducible refine After.size_le _ ?_) | (with_reducible refine size_alloc_le ?_) | (with_reducible refine size_set_le ?_) | (with_reducible refine size_drewN_le ?_) | go_size))⟩
theorem readings_some (s g c y : Int) (a : Option Addr) (n cap : Nat) (w : World) (h : ¬ y = -1) :
    Calls Tryd.prog 83 #[waV s g c a n cap, .int .i64 y] w fun e w' => (∃ B c1, e = .returned (.slice (some ⟨B, 0, none⟩) 1 c1) ∧ w'.cell? ⟨B, 0, none⟩ = some (.int .i64 y)) ∧ Below w.heap.size w w' := by
  have h1 : (y == -1) = false := beq_eq_false_iff_ne.2 h
  unfold waV
  go_enter Tryd.func83, Tryd.ntmps83
  go_wp2
  go_ret
  exact ⟨⟨_, _, rfl, by simp [go_sem]⟩, by (repeat' (first | (with_reducible exact Below.refl _ _) | (with_reducible assumption) | (with_reducible refine Below.alloc ?_ ?_ _) | (with_reducible refine Below.drew ?_) | (with_reducible refine below_drewN ?_ _) | (with_reducible refine Below.setCell ?_ ?_ _) | (with_reducible refine below_after ?_ ?_ _) | (with_reducible refine below_set ?_) | (with_reducible refine After.size_le _ ?_) | (with_reducible refine size_alloc_le ?_) | (with_reducible refine size_set_le ?_) | (with_reducible refine size_drewN_le ?_) | go_size))⟩
theorem readings_none (s g c : Int) (a : Option Addr) (n cap : Nat) (w : World) :
    Calls Tryd.prog 83 #[waV s g c a n cap, .int .i64 (-1)] w fun e w' => (∃ B c1, e = .returned (.slice (some ⟨B, 0, none⟩) 2 c1) ∧ w'.cell? ⟨B, 0, none⟩ = some (.int .i64 0) ∧ w'.cell? ⟨B, 1, none⟩ = some (.int .i64 s)) ∧ Below w.heap.size w w' := by
  unfold waV
  go_enter Tryd.func83, Tryd.ntmps83
  go_wp2
  go_ret
  exact ⟨⟨_, _, rfl, by simp [go_sem], by simp [go_sem]⟩, by (repeat' (first | (with_reducible exact Below.refl _ _) | (with_reducible assumption) | (with_reducible refine Below.alloc ?_ ?_ _) | (with_reducible refine Below.drew ?_) | (with_reducible refine below_drewN ?_ _) | (with_reducible refine Below.setCell ?_ ?_ _) | (with_reducible refine below_after ?_ ?_ _) | (with_reducible refine below_set ?_) | (with_reducible refine After.size_le _ ?_) | (with_reducible refine size_alloc_le ?_) | (with_reducible refine size_set_le ?_) | (with_reducible refine size_drewN_le ?_) | go_size))⟩
end Go.Proofs.YtfmoedlnjlkiiaaDoor
