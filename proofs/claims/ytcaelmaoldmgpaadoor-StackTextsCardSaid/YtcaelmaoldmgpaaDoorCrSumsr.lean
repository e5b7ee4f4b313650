/- bedError, Weight and Centre in the reference. -/
import Derived.Test.YtcaelmaoldmgpaaDoorCrOverb
import Derived.Test.YtcaelmaoldmgpaaDoorCrSumsp
namespace Go.Proofs.YtcaelmaoldmgpaaDoor.Cr
open Go.Proofs.YtcaelmaoldmgpaaDoor
open Go.RowKit
attribute [local go_sem] After.cell After.frozen After.lt After.le After.ne After.ne' After.set_eq After.size_set After.lt_add

/-- The first error of a good stack's bed, a pressure and a side. -/
def beE (n : Nat) (i p s : Int) : Int := if Btw i 0 ((n : Int) - 1) ∧ WindOk p s then 0 else 7
theorem beE_plain {n : Nat} {i : Int} : beE n i 0 0 = bdE n i := by
  unfold beE bdE WindOk Btw
  by_cases h : 0 ≤ i ∧ i < n
  · rw [if_pos h, if_pos (by omega)]
  · rw [if_neg h, if_neg (by omega)]
end Go.Proofs.YtcaelmaoldmgpaaDoor.Cr
