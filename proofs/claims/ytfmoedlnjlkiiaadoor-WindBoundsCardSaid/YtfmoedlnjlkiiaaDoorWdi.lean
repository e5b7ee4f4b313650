/- A minute's step, and what makes the iterators. -/
import Derived.Test.YtfmoedlnjlkiiaaDoorWdv
import Derived.Laws.EntriesVeiled
namespace Go.Proofs.YtfmoedlnjlkiiaaDoor
open Go.RowKit
attribute [local go_sem] After.cell After.frozen After.lt After.le After.ne After.ne' After.set_eq After.size_set After.lt_add

def ruV (s g c : Int) : Value := .agg #[.int .i64 s, .int .i64 g, .int .i64 c]
def waV (s g c : Int) (a : Option Addr) (n cap : Nat) : Value := .agg #[.int .i64 s, .int .i64 g, .int .i64 c, .slice a n cap]
def goF (s g c : Int) : Value := .func (.func 92) #[.agg #[.int .i64 s, .int .i64 g, .int .i64 c]] #[]
def stF (s g c : Int) : Value := .func (.func 93) #[.agg #[.int .i64 s, .int .i64 g, .int .i64 c]] #[]

set_option maxHeartbeats 400000 in
theorem going_any (s g c x : Int) (w : World) :
    Calls Tryd.prog 92 #[.agg #[.int .i64 s, .int .i64 g, .int .i64 c], .int .i64 0, .int .i64 x] w fun e w' => e = .returned (.int .i64 (nxW s g c 0 x)) ∧ Below w.heap.size w w' := by
  unfold nxW
  by_cases h1 : x = -1
  · subst h1
    rw [if_pos rfl, if_pos (.inl rfl)]
    go_enter Tryd.func92, Tryd.ntmps92
    go_wp2
    go_ret
    exact ⟨rfl, by (repeat' (first | (with_reducible exact Below.refl _ _) | (with_reducible assumption) | (with_reducible refine Below.alloc ?_ ?_ _) | (with_reducible refine Below.drew ?_) | (with_reducible refine below_drewN ?_ _) | (with_reducible refine Below.setCell ?_ ?_ _) | (with_reducible refine below_after ?_ ?_ _) | (with_reducible refine below_set ?_) | (with_reducible refine After.size_le _ ?_) | (with_reducible refine size_alloc_le ?_) | (with_reducible refine size_set_le ?_) | (with_reducible refine size_drewN_le ?_) | go_size))⟩
  · have h1' : (x == -1) = false := beq_eq_false_iff_ne.2 h1
    by_cases h2 : s ≤ x
    · rw [if_pos rfl, if_pos (.inr h2)]
      go_enter Tryd.func92, Tryd.ntmps92
      go_wp2
      go_ret
      exact ⟨rfl, by (repeat' (first | (with_reducible exact Below.refl _ _) | (with_reducible assumption) | (with_reducible refine Below.alloc ?_ ?_ _) | (with_reducible refine Below.drew ?_) | (with_reducible refine below_drewN ?_ _) | (with_reducible refine Below.setCell ?_ ?_ _) | (with_reducible refine below_after ?_ ?_ _) | (with_reducible refine below_set ?_) | (with_reducible refine After.size_le _ ?_) | (with_reducible refine size_alloc_le ?_) | (with_reducible refine size_set_le ?_) | (with_reducible refine size_drewN_le ?_) | go_size))⟩
    · rw [if_pos rfl, if_neg (by omega)]
      have h2' : decide (s ≤ x) = false := decide_eq_false h2
      go_enter Tryd.func92, Tryd.ntmps92
      go_wp2
      go_ret
      exact ⟨rfl, by (repeat' (first | (with_reducible exact Below.refl _ _) | (with_reducible assumption) | (with_reducible refine Below.alloc ?_ ?_ _) | (with_reducible refine Below.drew ?_) | (with_reducible refine below_drewN ?_ _) | (with_reducible refine Below.setCell ?_ ?_ _) | (with_reducible refine below_after ?_ ?_ _) | (with_reducible refine below_set ?_) | (with_reducible refine After.size_le _ ?_) | (with_reducible refine size_alloc_le ?_) | (with_reducible refine size_set_le ?_) | (with_reducible refine size_drewN_le ?_) | go_size))⟩
set_option maxHeartbeats 400000 in
theorem stopped_any (s g c v x : Int) (w : World) (h0 : ¬ v = 0) (hv : 0 ≤ v ∧ v ≤ 1000) :
    Calls Tryd.prog 93 #[.agg #[.int .i64 s, .int .i64 g, .int .i64 c], .int .i64 v, .int .i64 x] w fun e w' => e = .returned (.int .i64 (nxW s g c v x)) ∧ Below w.heap.size w w' := by
  obtain ⟨v1, v2⟩ := hv
  unfold nxW
  rw [if_neg h0]
  by_cases h1 : x = -1
  · subst h1
    rw [if_pos (.inl rfl)]
    go_enter Tryd.func93, Tryd.ntmps93
    go_wp2
    go_ret
    exact ⟨rfl, by (repeat' (first | (with_reducible exact Below.refl _ _) | (with_reducible assumption) | (with_reducible refine Below.alloc ?_ ?_ _) | (with_reducible refine Below.drew ?_) | (with_reducible refine below_drewN ?_ _) | (with_reducible refine Below.setCell ?_ ?_ _) | (with_reducible refine below_after ?_ ?_ _) | (with_reducible refine below_set ?_) | (with_reducible refine After.size_le _ ?_) | (with_reducible refine size_alloc_le ?_) | (with_reducible refine size_set_le ?_) | (with_reducible refine size_drewN_le ?_) | go_size))⟩
  · have h1' : (x == -1) = false := beq_eq_false_iff_ne.2 h1
    by_cases h2 : g ≤ x
    · rw [if_pos (.inr h2)]
      go_enter Tryd.func93, Tryd.ntmps93
      go_wp2
      go_ret
      exact ⟨rfl, by (repeat' (first | (with_reducible exact Below.refl _ _) | (with_reducible assumption) | (with_reducible refine Below.alloc ?_ ?_ _) | (with_reducible refine Below.drew ?_) | (with_reducible refine below_drewN ?_ _) | (with_reducible refine Below.setCell ?_ ?_ _) | (with_reducible refine below_after ?_ ?_ _) | (with_reducible refine below_set ?_) | (with_reducible refine After.size_le _ ?_) | (with_reducible refine size_alloc_le ?_) | (with_reducible refine size_set_le ?_) | (with_reducible refine size_drewN_le ?_) | go_size))⟩
    · rw [if_neg (by omega)]
      have h2' : decide (g ≤ x) = false := decide_eq_false h2
      go_enter Tryd.func93, Tryd.ntmps93
      go_wp2
      go_ret
      exact ⟨rfl, by (repeat' (first | (with_reducible exact Below.refl _ _) | (with_reducible assumption) | (with_reducible refine Below.alloc ?_ ?_ _) | (with_reducible refine Below.drew ?_) | (with_reducible refine below_drewN ?_ _) | (with_reducible refine Below.setCell ?_ ?_ _) | (with_reducible refine below_after ?_ ?_ _) | (with_reducible refine below_set ?_) | (with_reducible refine After.size_le _ ?_) | (with_reducible refine size_alloc_le ?_) | (with_reducible refine size_set_le ?_) | (with_reducible refine size_drewN_le ?_) | go_size))⟩
set_option maxHeartbeats 1000000 in
theorem step_any (s g c v x : Int) (w : World) (hv : 0 ≤ v ∧ v ≤ 1000) :
    Calls Tryd.prog 81 #[.agg #[goF s g c, stF s g c], .int .i64 v, .int .i64 x] w fun e w' => e = .returned (.agg #[.int .i64 v, .int .i64 (nxW s g c v x)]) ∧ Below w.heap.size w w' := by
  unfold goF stF
  by_cases h0 : v = 0
  · subst h0
    have H := Lib.hid (fun w => going_any s g c x w)
    generalize nxW s g c 0 x = r at *
    go_enter Tryd.func81, Tryd.ntmps81
    go_wp2_with fail
    refine calls_after (H.out _) ?_
    intro x1
    go_wp2
    go_returns
    exact ⟨rfl, by (repeat' (first | (with_reducible exact Below.refl _ _) | (with_reducible assumption) | (with_reducible refine Below.alloc ?_ ?_ _) | (with_reducible refine Below.drew ?_) | (with_reducible refine below_drewN ?_ _) | (with_reducible refine Below.setCell ?_ ?_ _) | (with_reducible refine below_after ?_ ?_ _) | (with_reducible refine below_set ?_) | (with_reducible refine After.size_le _ ?_) | (with_reducible refine size_alloc_le ?_) | (with_reducible refine size_set_le ?_) | (with_reducible refine size_drewN_le ?_) | go_size))⟩
  · have H := Lib.hid (fun w => stopped_any s g c v x w h0 hv)
    have h0' : (v == 0) = false := beq_eq_false_iff_ne.2 h0
    clear h0
    generalize nxW s g c v x = r at *
    go_enter Tryd.func81, Tryd.ntmps81
    go_wp2_with fail
    refine calls_after (H.out _) ?_
    intro x1
    go_wp2
    go_returns
    exact ⟨rfl, by (repeat' (first | (with_reducible exact Below.refl _ _) | (with_reducible assumption) | (with_reducible refine Below.alloc ?_ ?_ _) | (with_reducible refine Below.drew ?_) | (with_reducible refine below_drewN ?_ _) | (with_reducible refine Below.setCell ?_ ?_ _) | (with_reducible refine below_after ?_ ?_ _) | (with_reducible refine below_set ?_) | (with_reducible refine After.size_le _ ?_) | (with_reducible refine size_alloc_le ?_) | (with_reducible refine size_set_le ?_) | (with_reducible refine size_drewN_le ?_) | go_size))⟩

set_option maxHeartbeats 1000000 in
theorem statesOf_any (s g c : Int) (w : World) :
    Calls Tryd.prog 79 #[.agg #[.int .i64 s, .int .i64 g, .int .i64 c]] w fun e w' => e = .returned (.agg #[goF s g c, stF s g c]) ∧ Below w.heap.size w w' ∧ w'.heap.size = w.heap.size + 3 := by
  unfold goF stF
  go_enter Tryd.func79, Tryd.ntmps79
  go_wp2
  go_returns
  exact ⟨rfl, by (repeat' (first | (with_reducible exact Below.refl _ _) | (with_reducible assumption) | (with_reducible refine Below.alloc ?_ ?_ _) | (with_reducible refine Below.drew ?_) | (with_reducible refine below_drewN ?_ _) | (with_reducible refine Below.setCell ?_ ?_ _) | (with_reducible refine below_after ?_ ?_ _) | (with_reducible refine below_set ?_) | (with_reducible refine After.size_le _ ?_) | (with_reducible refine size_alloc_le ?_) | (with_reducible refine size_set_le ?_) | (with_reducible refine size_drewN_le ?_) | go_size)), by simp⟩
/-- What lies in the boxes of the iterator of minutes. -/
structure MinB (W : World) (Bw Bs : Nat) (s g c : Int) (a : Option Addr) (n cap : Nat) : Prop where
  l : W.cell? ⟨Bw, 3, none⟩ = some (.slice a n cap)
  go : W.cell? ⟨Bs, 0, none⟩ = some (goF s g c)
  st : W.cell? ⟨Bs, 1, none⟩ = some (stF s g c)
set_option maxRecDepth 100000 in
set_option maxHeartbeats 1000000 in
theorem minutes_any (s g c : Int) (a : Option Addr) (n cap : Nat) (w : World) :
    Calls Tryd.prog 63 #[waV s g c a n cap] w fun e w' => e = .returned (.func (.func 80) #[] #[.pointer (some ⟨w.heap.size, 0, none⟩), .pointer (some ⟨w.heap.size + 4, 0, none⟩)]) ∧ Below w.heap.size w w' ∧ w'.heap.size = w.heap.size + 5 ∧ MinB w' w.heap.size (w.heap.size + 4) s g c a n cap := by
  have H := Lib.hid (fun w => statesOf_any s g c w)
  unfold waV
  go_enter Tryd.func63, Tryd.ntmps63
  go_wp2_with fail
  refine (H.out _).mono ?_
  rintro e w1 ⟨rfl, hb, hs⟩
  have h3 := (hb.cell (p := ⟨w.heap.size, 3, none⟩) (by simp)).trans (b := _) (c := some (.slice a n cap)) (by simp [go_sem])
  have hx : Below w.heap.size w w1 := Below.trans (by (repeat' (first | (with_reducible exact Below.refl _ _) | (with_reducible assumption) | (with_reducible refine Below.alloc ?_ ?_ _) | (with_reducible refine Below.drew ?_) | (with_reducible refine below_drewN ?_ _) | (with_reducible refine Below.setCell ?_ ?_ _) | (with_reducible refine below_after ?_ ?_ _) | (with_reducible refine below_set ?_) | (with_reducible refine After.size_le _ ?_) | (with_reducible refine size_alloc_le ?_) | (with_reducible refine size_set_le ?_) | (with_reducible refine size_drewN_le ?_) | go_size))) (hb.mono (by simp))
  simp only [World.size_alloc] at hs
  clear hb H
  unfold goF stF
  go_wp2
  go_ret
  have e4 : w.heap.size + 4 = w1.heap.size := by omega
  exact ⟨rfl, hx.alloc hx.size _, by simp; omega, ⟨keep_alloc h3, by rw [e4]; simp [go_sem, goF], by rw [e4]; simp [go_sem, stF]⟩⟩
theorem where_any (s g c : Int) (a : Option Addr) (n cap : Nat) (q : Bool) (w : World) :
    Calls Tryd.prog 52 #[waV s g c a n cap, .bool q] w fun e w' => e = .returned (.func (.func 76) #[] #[.pointer (some ⟨w.heap.size, 0, none⟩), .pointer (some ⟨w.heap.size + 1, 0, none⟩)]) ∧ (w.alloc (.cells #[.int .i64 s, .int .i64 g, .int .i64 c, .slice a n cap] 67)).alloc (.cells #[.bool q] 4) = w' := by
  unfold waV
  go_enter Tryd.func52, Tryd.ntmps52
  go_wp2
  go_ret
  exact ⟨rfl, rfl⟩
theorem goes_any (x y : Int) (w : World) :
    Calls Tryd.prog 77 #[.agg #[.int .i64 x, .int .i64 y]] w fun e w' => e = .returned (.bool (decide (x = 0) && decide (y = 0))) ∧ Below w.heap.size w w' := by
  have e1 : decide (x = 0) = (x == 0) := rfl
  have e2 : decide (y = 0) = (y == 0) := rfl
  rw [e1, e2]
  generalize hp : (x == 0) = p
  generalize hq : (y == 0) = q
  cases p <;> cases q <;> (
    go_enter Tryd.func77, Tryd.ntmps77
    go_wp2
    go_ret
    exact ⟨rfl, by (repeat' (first | (with_reducible exact Below.refl _ _) | (with_reducible assumption) | (with_reducible refine Below.alloc ?_ ?_ _) | (with_reducible refine Below.drew ?_) | (with_reducible refine below_drewN ?_ _) | (with_reducible refine Below.setCell ?_ ?_ _) | (with_reducible refine below_after ?_ ?_ _) | (with_reducible refine below_set ?_) | (with_reducible refine After.size_le _ ?_) | (with_reducible refine size_alloc_le ?_) | (with_reducible refine size_set_le ?_) | (with_reducible refine size_drewN_le ?_) | go_size))⟩)
end Go.Proofs.YtfmoedlnjlkiiaaDoor
