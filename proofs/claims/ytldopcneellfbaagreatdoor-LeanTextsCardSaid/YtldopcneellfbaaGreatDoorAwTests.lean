/- Contracts of the tests on numbers, points, marks. -/
import Derived.Test.YtldopcneellfbaaGreatDoorAwNum
import Derived.Handy
import Derived.StillTailTactics
namespace Go.Proofs.YtldopcneellfbaaGreatDoor.Aw
open Go.Proofs.YtldopcneellfbaaGreatDoor
open Go.RowKit

theorem ret_bool {a b : Bool} (h : a = b) : Ending.returned (.bool a) = .returned (.bool b) := by rw [h]
theorem ret_dec {p : Prop} [Decidable p] {a : Bool} (h : a = true ↔ p) : Ending.returned (.bool a) = .returned (.bool (decide p)) := by
  by_cases hp : p
  · simp [hp, h.2 hp]
  · have : a = false := by cases a with | false => rfl | true => exact absurd (h.1 rfl) hp
    simp [hp, this]
/-- A line's numbers are in their bounds. -/
def InBd (a b d : Int) : Prop := -100000000000000000 ≤ a ∧ a ≤ 100000000000000000 ∧ -1000000000000 ≤ b ∧ b ≤ 1000000000000 ∧ 1 ≤ d ∧ d ≤ 1000000000000
instance (a b d : Int) : Decidable (InBd a b d) := by unfold InBd; infer_instance
/-- A point's numbers are in their bounds. -/
def InPt (h x : Int) : Prop := 0 ≤ h ∧ h ≤ 200000 ∧ -10000 ≤ x ∧ x ≤ 10000
instance (h x : Int) : Decidable (InPt h x) := by unfold InPt; infer_instance
/-- A mark's numbers are in their bounds. -/
def InMk (h x y : Int) : Prop := 0 ≤ h ∧ h ≤ 200000 ∧ -10000 ≤ x ∧ x ≤ 10000 ∧ -10000 ≤ y ∧ y ≤ 10000
instance (h x y : Int) : Decidable (InMk h x y) := by unfold InMk; infer_instance

set_option maxHeartbeats 400000 in
theorem inBounds_any (a b d : Int) (w : World) :
    Calls Tryz.prog 44 #[.agg #[.int .i64 a, .int .i64 b, .int .i64 d]] w fun e w' => e = .returned (.bool (decide (InBd a b d))) ∧ Below w.heap.size w w' := by
  go_enter Tryz.func44, Tryz.ntmps44
  go_wp2
  all_goals
    go_ret
    exact ⟨ret_dec (by unfold InBd; simp; omega), by go_grown⟩
set_option maxHeartbeats 400000 in
theorem validPoint_any (h x : Int) (w : World) :
    Calls Tryz.prog 43 #[.agg #[.int .i64 h, .int .i64 x]] w fun e w' => e = .returned (.bool (decide (InPt h x))) ∧ Below w.heap.size w w' := by
  go_enter Tryz.func43, Tryz.ntmps43
  go_wp2
  all_goals
    go_ret
    exact ⟨ret_dec (by unfold InPt; simp; omega), by go_grown⟩
set_option maxHeartbeats 400000 in
theorem validMark_any (h x y : Int) (w : World) :
    Calls Tryz.prog 35 #[.agg #[.int .i64 h, .int .i64 x, .int .i64 y]] w fun e w' => e = .returned (.bool (decide (InMk h x y))) ∧ Below w.heap.size w w' := by
  go_enter Tryz.func35, Tryz.ntmps35
  go_wp2
  all_goals
    go_ret
    exact ⟨ret_dec (by unfold InMk; simp; omega), by go_grown⟩
set_option maxHeartbeats 400000 in
theorem rvalidMark_any (h x y : Int) (w : World) :
    Calls Tryz.prog 37 #[.agg #[.int .i64 h, .int .i64 x, .int .i64 y]] w fun e w' => e = .returned (.bool (decide (InMk h x y))) ∧ Below w.heap.size w w' := by
  go_enter Tryz.func37, Tryz.ntmps37
  go_wp2
  all_goals
    go_ret
    exact ⟨ret_dec (by unfold InMk; simp; omega), by go_grown⟩


/-! ### Structs that are compared as a whole: the answer under one name -/
def eq3 (a b d a' b' d' : Int) : Bool := decide (a = a' ∧ b = b' ∧ d = d')
theorem eq3_self (a b d : Int) : eq3 a b d a b d = true := by simp [eq3]
def eq2 (a b a' b' : Int) : Bool := decide (a = a' ∧ b = b')
theorem eq2_self (a b : Int) : eq2 a b a b = true := by simp [eq2]
theorem eql_line (a b d a' b' d' : Int) (w : World) : (binOp .eql 31 (.agg #[.int .i64 a, .int .i64 b, .int .i64 d]) (.agg #[.int .i64 a', .int .i64 b', .int .i64 d'])).run Tryz.prog w = .ok (.bool (eq3 a b d a' b' d')) w := by
  rw [run_eql_struct]
  go_simp
  by_cases h1 : a = a' <;> by_cases h2 : b = b' <;> by_cases h3 : d = d' <;> simp [h1, h2, h3, eq3]
theorem neq_line (a b d a' b' d' : Int) (w : World) : (binOp .neq 31 (.agg #[.int .i64 a, .int .i64 b, .int .i64 d]) (.agg #[.int .i64 a', .int .i64 b', .int .i64 d'])).run Tryz.prog w = .ok (.bool (!eq3 a b d a' b' d')) w := by
  rw [run_neq_struct]
  go_simp
  by_cases h1 : a = a' <;> by_cases h2 : b = b' <;> by_cases h3 : d = d' <;> simp [h1, h2, h3, eq3]
theorem eql_mark (a b d a' b' d' : Int) (w : World) : (binOp .eql 40 (.agg #[.int .i64 a, .int .i64 b, .int .i64 d]) (.agg #[.int .i64 a', .int .i64 b', .int .i64 d'])).run Tryz.prog w = .ok (.bool (eq3 a b d a' b' d')) w := by
  rw [run_eql_struct]
  go_simp
  by_cases h1 : a = a' <;> by_cases h2 : b = b' <;> by_cases h3 : d = d' <;> simp [h1, h2, h3, eq3]
theorem neq_mark (a b d a' b' d' : Int) (w : World) : (binOp .neq 40 (.agg #[.int .i64 a, .int .i64 b, .int .i64 d]) (.agg #[.int .i64 a', .int .i64 b', .int .i64 d'])).run Tryz.prog w = .ok (.bool (!eq3 a b d a' b' d')) w := by
  rw [run_neq_struct]
  go_simp
  by_cases h1 : a = a' <;> by_cases h2 : b = b' <;> by_cases h3 : d = d' <;> simp [h1, h2, h3, eq3]
theorem eql_ratio (a b a' b' : Int) (w : World) : (binOp .eql 73 (.agg #[.int .i64 a, .int .i64 b]) (.agg #[.int .i64 a', .int .i64 b'])).run Tryz.prog w = .ok (.bool (eq2 a b a' b')) w := by
  rw [run_eql_struct]
  go_simp
  by_cases h1 : a = a' <;> by_cases h2 : b = b' <;> simp [h1, h2, eq2]
theorem neq_ratio (a b a' b' : Int) (w : World) : (binOp .neq 73 (.agg #[.int .i64 a, .int .i64 b]) (.agg #[.int .i64 a', .int .i64 b'])).run Tryz.prog w = .ok (.bool (!eq2 a b a' b')) w := by
  rw [run_neq_struct]
  go_simp
  by_cases h1 : a = a' <;> by_cases h2 : b = b' <;> simp [h1, h2, eq2]
theorem eql_point (a b a' b' : Int) (w : World) : (binOp .eql 35 (.agg #[.int .i64 a, .int .i64 b]) (.agg #[.int .i64 a', .int .i64 b'])).run Tryz.prog w = .ok (.bool (eq2 a b a' b')) w := by
  rw [run_eql_struct]
  go_simp
  by_cases h1 : a = a' <;> by_cases h2 : b = b' <;> simp [h1, h2, eq2]
theorem neq_point (a b a' b' : Int) (w : World) : (binOp .neq 35 (.agg #[.int .i64 a, .int .i64 b]) (.agg #[.int .i64 a', .int .i64 b'])).run Tryz.prog w = .ok (.bool (!eq2 a b a' b')) w := by
  rw [run_neq_struct]
  go_simp
  by_cases h1 : a = a' <;> by_cases h2 : b = b' <;> simp [h1, h2, eq2]
end Go.Proofs.YtldopcneellfbaaGreatDoor.Aw
