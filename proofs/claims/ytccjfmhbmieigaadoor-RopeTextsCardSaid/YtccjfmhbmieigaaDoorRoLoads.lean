/- Loads that are valid, in both programs. -/
import Derived.Test.YtccjfmhbmieigaaDoorRoLoadm
import Derived.Test.YtccjfmhbmieigaaDoorRoPairs
namespace Go.Proofs.YtccjfmhbmieigaaDoor.Ro
open Go.Proofs.YtccjfmhbmieigaaDoor
open Go.RowKit
attribute [local go_sem] After.cell After.frozen After.lt After.le After.ne After.ne' After.set_eq After.size_set After.lt_add

theorem validLoad_t (n : Int) (w : World) (h : Ld n) : Calls Tryd.prog 59 #[.int .i64 n] w fun e w' => e = .returned (.bool true) ∧ w = w' := validLoad_any n true (by simp [h]) w
theorem validLoad_f (n : Int) (w : World) (h : ¬ Ld n) : Calls Tryd.prog 59 #[.int .i64 n] w fun e w' => e = .returned (.bool false) ∧ w = w' := validLoad_any n false (by simp [h]) w
theorem rload_t (n : Int) (w : World) (h : Ld n) : Calls Tryd.prog 38 #[.int .i64 n] w fun e w' => e = .returned (.bool true) ∧ w = w' := rload_any n true (by simp [h]) w
theorem rload_f (n : Int) (w : World) (h : ¬ Ld n) : Calls Tryd.prog 38 #[.int .i64 n] w fun e w' => e = .returned (.bool false) ∧ w = w' := rload_any n false (by simp [h]) w

end Go.Proofs.YtccjfmhbmieigaaDoor.Ro
