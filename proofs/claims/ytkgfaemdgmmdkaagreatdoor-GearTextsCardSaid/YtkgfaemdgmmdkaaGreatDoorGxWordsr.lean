/- The reference's Words: its contract. -/
import Derived.Test.YtkgfaemdgmmdkaaGreatDoorGxWords
namespace Go.Proofs.YtkgfaemdgmmdkaaGreatDoor.Gx
open Go.Proofs.YtkgfaemdgmmdkaaGreatDoor
open Go.RowKit
attribute [local go_sem] After.cell After.frozen After.lt After.le After.ne After.ne' After.set_eq After.size_set After.lt_add tx_size

section
variable {P : Program} (w : World) {t : TypeId} (ht : P.underlying t = some .string)
include ht
end
theorem wordsL_len (mark : UInt8) (s : List UInt8) : (wordsL mark s).length ≤ s.length + 1 := by
  have := cutW_len mark s
  simp [wordsL]; omega

end Go.Proofs.YtkgfaemdgmmdkaaGreatDoor.Gx
