/- Stage 2: contracts of the tests on courses. -/
import Derived.Test.YtcaelmaoldmgpaaDoorProg
import Derived.Test.YtcaelmaoldmgpaaDoorAfter
import Derived.WalkKit
import Derived.WalkSpells
import Derived.WalkLawsBesides
import Derived.Deep.QuietTactic
import Derived.BigQuiet
import Derived.Deep.RegionHeld3
import Derived.Deep.RegionWith
import Derived.RegionTactic
import Derived.LoopTactic
import Derived.Lib.Hide
import Derived.Below
import Derived.KernelRfl
import Derived.Handy
import Derived.StillTailTactics
namespace Go.Proofs.YtcaelmaoldmgpaaDoor.Cr
open Go.Proofs.YtcaelmaoldmgpaaDoor
open Go.RowKit

theorem ret_bool {a b : Bool} (h : a = b) : Ending.returned (.bool a) = .returned (.bool b) := by rw [h]
theorem ret_dec {p : Prop} [Decidable p] {a : Bool} (h : a = true ↔ p) : Ending.returned (.bool a) = .returned (.bool (decide p)) := by
  by_cases hp : p
  · simp [hp, h.2 hp]
  · have : a = false := by cases a with | false => rfl | true => exact absurd (h.1 rfl) hp
    simp [hp, this]
/-- A course's numbers are in their bounds: height, out, in, weight, east, north. -/
def InCr (h o i t x y : Int) : Prop := 1 ≤ h ∧ h ≤ 2000 ∧ 1 ≤ o ∧ o ≤ 5000 ∧ 0 ≤ i ∧ i < o ∧ 1 ≤ t ∧ t ≤ 1000000 ∧ -5000 ≤ x ∧ x ≤ 5000 ∧ -5000 ≤ y ∧ y ≤ 5000
instance (h o i t x y : Int) : Decidable (InCr h o i t x y) := by unfold InCr; infer_instance

def Btw (n a b : Int) : Prop := a ≤ n ∧ n ≤ b
instance (n a b : Int) : Decidable (Btw n a b) := by unfold Btw; infer_instance
theorem between_any (n a b : Int) (w : World) :
    Calls Tryd.prog 52 #[.int .i64 n, .int .i64 a, .int .i64 b] w fun e w' => e = .returned (.bool (decide (Btw n a b))) ∧ Below w.heap.size w w' := by
  go_enter Tryd.func52, Tryd.ntmps52
  go_wp2
  all_goals
    go_ret
    exact ⟨ret_dec (by unfold Btw; simp; omega), by go_grown⟩
theorem within_any (n a b : Int) (w : World) :
    Calls Tryd.prog 51 #[.int .i64 n, .int .i64 a, .int .i64 b] w fun e w' => e = .returned (.bool (decide (Btw n a b))) ∧ Below w.heap.size w w' := by
  go_enter Tryd.func51, Tryd.ntmps51
  go_wp2
  all_goals
    go_ret
    exact ⟨ret_dec (by unfold Btw; simp; omega), by go_grown⟩
set_option maxHeartbeats 1000000 in
theorem validCourse_any (h o i t x y : Int) (w : World) :
    Calls Tryd.prog 48 #[.agg #[.int .i64 h, .int .i64 o, .int .i64 i, .int .i64 t, .int .i64 x, .int .i64 y]] w fun e w' => e = .returned (.bool (decide (InCr h o i t x y))) ∧ Below w.heap.size w w' := by
  go_enter Tryd.func48, Tryd.ntmps48
  go_wp2
  all_goals
    go_ret
    exact ⟨ret_dec (by unfold InCr; simp; omega), by go_grown⟩
set_option maxHeartbeats 1000000 in
theorem rvalidCourse_any (h o i t x y : Int) (w : World) :
    Calls Tryd.prog 50 #[.agg #[.int .i64 h, .int .i64 o, .int .i64 i, .int .i64 t, .int .i64 x, .int .i64 y]] w fun e w' => e = .returned (.bool (decide (InCr h o i t x y))) ∧ Below w.heap.size w w' := by
  go_enter Tryd.func50, Tryd.ntmps50
  go_wp2
  all_goals
    go_ret
    exact ⟨ret_dec (by unfold InCr; simp; omega), by go_grown⟩
end Go.Proofs.YtcaelmaoldmgpaaDoor.Cr
