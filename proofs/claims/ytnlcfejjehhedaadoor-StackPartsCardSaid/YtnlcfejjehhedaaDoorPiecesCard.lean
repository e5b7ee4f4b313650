/- For every slice of courses, every bed and every pressure StackParts returns true and leaves its arguments as they were: the weight and the centre over a bed are those of its course and of what is over the next bed, and moments grow with the pressure. Conditions: none beyond the row. The statement's card: the table of the winds is tied to the program's text. -/
import Derived.Test.YtnlcfejjehhedaaDoorCards
import Derived.Test.YtnlcfejjehhedaaDoorTie
import Derived.Test.YtnlcfejjehhedaaDoorPiecesRow
import Derived.SevenTiedAt
namespace Go.Proofs.YtnlcfejjehhedaaDoor
open Go

theorem stackParts_card : Rows.StackPartsCardSaid :=
  Claim7.holds_tied_plain_at .later [] [.data] true (true, "c961ea9da6d31ec0744368c99dd1e70517042a9c0d698c0c510b85d1fc68b4a7") false
    stackParts_holds (fun _ h => by cases h) (by kernel_rfl) (fun _ h => by cases h) stackParts_row_tie rfl ⟨rfl, rfl⟩ (by kernel_rfl) rfl
    (fun f fn hf hfn => by
      obtain rfl : f = 11 := Option.some.inj ((show Tryd.prog.funcNamed "steeplejack/steeplejacklaw02.StackParts" = some 11 by kernel_rfl).symm.trans hf) |>.symm
      obtain rfl : fn = Tryd.f11 := (Option.some.inj (Tryd.func11.symm.trans hfn)).symm
      exact ⟨by kernel_rfl, fun j t ht => by
        rw [Tryd.params11] at ht
        have hm : t ∈ [22, 3, 3] := by simpa using Array.mem_of_getElem? ht
        have hall : ([22, 3, 3].all fun u => !Tryd.prog.wantsStandIn u) = true := by kernel_rfl
        exact (show Tryd.prog.wantsStandIn t = false by simpa using List.all_eq_true.1 hall t hm)⟩)
    (by kernel_rfl)
end Go.Proofs.YtnlcfejjehhedaaDoor
