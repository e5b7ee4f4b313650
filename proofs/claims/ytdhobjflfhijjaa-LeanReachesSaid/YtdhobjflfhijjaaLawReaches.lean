/- Reaches is that of 1.3: the law's walk. -/
import Derived.Test.YtdhobjflfhijjaaNearest
import Derived.Test.YtdhobjflfhijjaaReachb
namespace Go.Proofs.Ytdhobjflfhijjaa
open Go.RowKit
attribute [local go_sem] After.cell After.frozen After.lt After.le After.ne After.ne' After.set_eq After.size_set After.lt_add

/-- What both programs answer. -/
theorem reaches_all (ah ae an bh be bn f t l : Int) (hf : In64 f) (ht : In64 t) : ∃ d e : Int,
    (∀ w, Calls Try.prog 55 #[.agg #[.int .i64 ah, .int .i64 ae, .int .i64 an], .agg #[.int .i64 bh, .int .i64 be, .int .i64 bn], .int .i64 f, .int .i64 t, .int .i64 l] w fun x w' => x = .returned (.tuple #[.int .i64 d, .int .i64 e]) ∧ Below w.heap.size w w') ∧
    (∀ w, Calls Try.prog 56 #[.agg #[.int .i64 ah, .int .i64 ae, .int .i64 an], .agg #[.int .i64 bh, .int .i64 be, .int .i64 bn], .int .i64 f, .int .i64 t, .int .i64 l] w fun x w' => x = .returned (.tuple #[.int .i64 d, .int .i64 e]) ∧ Below w.heap.size w w') := by
  by_cases hm : InMk ah ae an ∧ InMk bh be bn
  · by_cases hd : InDays f t l
    · exact ⟨_, _, fun w => reaches_ok _ _ _ _ _ _ _ _ _ w hm.1 hm.2 hd, fun w => rreaches_ok _ _ _ _ _ _ _ _ _ w hm.1 hm.2 hd⟩
    · exact ⟨_, _, fun w => reaches_days _ _ _ _ _ _ _ _ _ w hm.1 hm.2 hd hf ht, fun w => rreaches_days _ _ _ _ _ _ _ _ _ w hm.1 hm.2 hd hf ht⟩
  · exact ⟨_, _, fun w => reaches_mark _ _ _ _ _ _ _ _ _ w hm, fun w => rreaches_mark _ _ _ _ _ _ _ _ _ w hm⟩

set_option maxRecDepth 100000 in
set_option maxHeartbeats 400000 in
theorem leanReaches_any (ah ae an bh be bn f t l : Int) (w : World) (hf : In64 f) (ht : In64 t) :
    Calls Try.prog 14 #[.agg #[.int .i64 ah, .int .i64 ae, .int .i64 an], .agg #[.int .i64 bh, .int .i64 be, .int .i64 bn], .agg #[.int .i64 f, .int .i64 t, .int .i64 l]] w fun e w' => e = .returned (.bool true) ∧ Below w.heap.size w w' := by
  obtain ⟨d, e, h1, h2⟩ := reaches_all ah ae an bh be bn f t l hf ht
  have H1 := Lib.hid h1
  have H2 := Lib.hid h2
  clear h1 h2 hf ht
  go_enter Try.func14, Try.ntmps14
  (go_wp2_with fail); refine calls_after (H1.out _) ?_; intro x1; have hz_x1 := x1.out.size; (try simp only [World.size_alloc] at hz_x1); (try simp only [World.size_setCell] at hz_x1); have k0_x1 : w.heap.size < x1.w.heap.size := (by omega); have j0_x1 : w.heap.size < x1.w.heap.size + 1 := (by omega); have k1_x1 : w.heap.size + 1 < x1.w.heap.size := (by omega); have j1_x1 : w.heap.size + 1 < x1.w.heap.size + 1 := (by omega); have k2_x1 : w.heap.size + 2 < x1.w.heap.size := (by omega); have j2_x1 : w.heap.size + 2 < x1.w.heap.size + 1 := (by omega)
  (go_wp2_with fail); refine calls_after (H2.out _) ?_; intro x2
  (go_wp2_with fail); refine calls_after2 (awake_any _) ?_; intro x3
  go_wp2
  go_ret
  exact ⟨rfl, by (repeat' (first | (with_reducible exact Below.refl _ _) | (with_reducible assumption) | (with_reducible refine Below.alloc ?_ ?_ _) | (with_reducible refine Below.drew ?_) | (with_reducible refine below_drewN ?_ _) | (with_reducible refine Below.setCell ?_ ?_ _) | (with_reducible refine below_after ?_ ?_ _) | (with_reducible refine below_set ?_) | (with_reducible refine After.size_le _ ?_) | (with_reducible refine size_alloc_le ?_) | (with_reducible refine size_set_le ?_) | (with_reducible refine size_drewN_le ?_) | go_size))⟩
end Go.Proofs.Ytdhobjflfhijjaa
