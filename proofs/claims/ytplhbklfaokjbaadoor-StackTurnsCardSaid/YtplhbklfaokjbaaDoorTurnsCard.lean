/- For every slice of courses, every side and every shift StackTurns returns true and leaves its arguments as they were: a turned stack has its Safe winds turned with it, and a shifted one has the same. Conditions: none beyond the row. The statement's card: the table of the winds is tied to the program's text. -/
import Derived.Test.YtplhbklfaokjbaaDoorCards
import Derived.Test.YtplhbklfaokjbaaDoorTie
import Derived.Test.YtplhbklfaokjbaaDoorTurnsRow
import Derived.SevenTiedAt
namespace Go.Proofs.YtplhbklfaokjbaaDoor
open Go

theorem stackTurns_card : Rows.StackTurnsCardSaid :=
  Claim7.holds_tied_plain_at .later [] [.data] true (true, "c961ea9da6d31ec0744368c99dd1e70517042a9c0d698c0c510b85d1fc68b4a7") false
    stackTurns_holds (fun _ h => by cases h) (by kernel_rfl) (fun _ h => by cases h) stackTurns_row_tie rfl ⟨rfl, rfl⟩ (by kernel_rfl) rfl
    (fun f fn hf hfn => by
      obtain rfl : f = 10 := Option.some.inj ((show Tryd.prog.funcNamed "steeplejack/steeplejacklaw02.StackTurns" = some 10 by kernel_rfl).symm.trans hf) |>.symm
      obtain rfl : fn = Tryd.f10 := (Option.some.inj (Tryd.func10.symm.trans hfn)).symm
      exact ⟨by kernel_rfl, fun j t ht => by
        rw [Tryd.params10] at ht
        have hm : t ∈ [22, 3, 58] := by simpa using Array.mem_of_getElem? ht
        have hall : ([22, 3, 58].all fun u => !Tryd.prog.wantsStandIn u) = true := by kernel_rfl
        exact (show Tryd.prog.wantsStandIn t = false by simpa using List.all_eq_true.1 hall t hm)⟩)
    (by kernel_rfl)
end Go.Proofs.YtplhbklfaokjbaaDoor
