/- RopeParts: the law's walk. -/
import Derived.Test.YtciicijindanlaaTestr
import Derived.Test.YtciicijindanlaaPartsx
namespace Go.Proofs.Ytciicijindanlaa
open Go.RowKit
attribute [local go_sem] After.cell After.frozen After.lt After.le After.ne After.ne' After.set_eq After.size_set After.lt_add

set_option maxRecDepth 100000 in
set_option maxHeartbeats 1000000 in
theorem ropeParts_any (k n m : Int) (w : World) :
    Calls Try.prog 4 #[.int .i64 k, .int .i64 n, .int .i64 m] w fun e w' => e = .returned (.bool true) ∧ Below w.heap.size w w' := by
  have HG := Lib.hid (fun w => parts_any k n m w)
  have HH := Lib.hid (fun w => rparts_any k n m w)
  generalize ptN k n m = N at *
  generalize ptE k n m = E at *
  go_enter Try.func4, Try.ntmps4
  go_wp2_with fail
  refine calls_after (HG.out _) ?_
  intro x1
  go_wp2_with fail
  refine calls_after2 (HH.out _) ?_
  intro x2
  go_wp2_with fail
  refine calls_after2 (awake_any _) ?_
  intro x10
  go_wp2
  go_ret
  exact ⟨rfl, by (repeat' (first | (with_reducible exact Below.refl _ _) | (with_reducible assumption) | (with_reducible refine Below.alloc ?_ ?_ _) | (with_reducible refine Below.drew ?_) | (with_reducible refine below_drewN ?_ _) | (with_reducible refine Below.setCell ?_ ?_ _) | (with_reducible refine below_after ?_ ?_ _) | (with_reducible refine below_set ?_) | (with_reducible refine After.size_le _ ?_) | (with_reducible refine size_alloc_le ?_) | (with_reducible refine size_set_le ?_) | (with_reducible refine size_drewN_le ?_) | go_size))⟩
end Go.Proofs.Ytciicijindanlaa
