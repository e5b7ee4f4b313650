/- Compare is that of 1.4: the law's walk. -/
import Derived.Test.YtdhobjflfhijjaaNearest
import Derived.Test.YtdhobjflfhijjaaRcmp
namespace Go.Proofs.Ytdhobjflfhijjaa
open Go.RowKit
attribute [local go_sem] After.cell After.frozen After.lt After.le After.ne After.ne' After.set_eq After.size_set After.lt_add

theorem cmpR_swap (a b c d : Int) : cmpR c d a b = -cmpR a b c d := by unfold cmpR cmp3; omega
theorem cmpR_self (a b : Int) : cmpR a b a b = 0 := by unfold cmpR cmp3; omega
theorem cmpR_bd (a b c d : Int) : -1 ≤ cmpR a b c d ∧ cmpR a b c d ≤ 1 := by unfold cmpR cmp3; omega

set_option maxRecDepth 100000 in
set_option maxHeartbeats 400000 in
theorem leanCompares_any (a b c d : Int) (w : World) (ha : In64 a) (hb : In64 b) (hc : In64 c) (hd : In64 d) :
    Calls Try.prog 12 #[.agg #[.int .i64 a, .int .i64 b], .agg #[.int .i64 c, .int .i64 d]] w fun e w' => e = .returned (.bool true) ∧ Below w.heap.size w w' := by
  have H1 := Lib.hid (fun w => compare_any a b c d w ha hb hc hd)
  have H2 := Lib.hid (fun w => compare_any c d a b w hc hd ha hb)
  have H3 := Lib.hid (fun w => compare_any a b a b w ha hb ha hb)
  have H4 := Lib.hid (fun w => rcompare_any a b c d w ha hb hc hd)
  obtain ⟨n1, n2⟩ := cmpR_bd a b c d
  rw [cmpR_swap] at H2
  rw [cmpR_self] at H3
  generalize cmpR a b c d = n at *
  clear ha hb hc hd
  go_enter Try.func12, Try.ntmps12
  go_wp2_with (first | (go_at_call 51; (with_reducible (first | refine calls_after2 (H1.out _) ?_ | refine calls_after2 (H2.out _) ?_ | refine calls_after2 (H3.out _) ?_ | refine calls_after (H1.out _) ?_)); intro x1) | (go_at_call 44; (with_reducible (refine calls_after2 (H4.out _) ?_)); intro x2) | (go_at_call 15; (with_reducible (refine calls_after2 (awake_any _) ?_)); intro x3))
  go_ret
  exact ⟨rfl, by (repeat' (first | (with_reducible exact Below.refl _ _) | (with_reducible assumption) | (with_reducible refine Below.alloc ?_ ?_ _) | (with_reducible refine Below.drew ?_) | (with_reducible refine below_drewN ?_ _) | (with_reducible refine Below.setCell ?_ ?_ _) | (with_reducible refine below_after ?_ ?_ _) | (with_reducible refine below_set ?_) | (with_reducible refine After.size_le _ ?_) | (with_reducible refine size_alloc_le ?_) | (with_reducible refine size_set_le ?_) | (with_reducible refine size_drewN_le ?_) | go_size))⟩
end Go.Proofs.Ytdhobjflfhijjaa
