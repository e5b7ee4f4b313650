/-
  DERIVED. GIVEN WITH THE SEED: THE CARDS: each row of YtplhbklfaokjbaaDoorRows.lean that lists a variable, with what it lists TIED to the program's text (the seventh form; the later family's looks); each row that meets fmt, with fmt's text TOLD by the authors' own Lean function (tested against real Go, not proved from fmt's source: count such statements apart). THE CARD IS WHAT COUNTS. Prove the row's statement (the work); the ties are given (YtplhbklfaokjbaaDoorTie.lean); close each card by the builder's one call (the guide's Derived/Test/ToyasCard.lean, 'card_holds'). Laid BY PROGRAM, IN A SANDBOX (cutbox-door.mjs). By AI agents, Wed Nov 11 2026. No macro, syntax, notation, axiom, sorry.
-/
import Derived.Test.YtplhbklfaokjbaaDoorRows
import GoSem.ClaimSeven
namespace Go.Proofs.YtplhbklfaokjbaaDoor
namespace Rows

/-- THE TIED CARD OF 'steeplejacklaw02.StackSums'. -/
def stackSumsCard : Claim7 := { stood := { row := stackSumsRow, standIns := [], harness := (true, "c961ea9da6d31ec0744368c99dd1e70517042a9c0d698c0c510b85d1fc68b4a7"), looks := false }, kinds := [], alts := [], laidByText := true, laidKinds := [.data], laidTests := true, laidLooks := .later }
def StackSumsCardSaid : Prop := Claim7.holds Tryd.pinned (.plain (OpenSpec.ofChange stackSumsSpec)) stackSumsCard

/-- THE TIED CARD OF 'steeplejacklaw02.StackArms'. -/
def stackArmsCard : Claim7 := { stood := { row := stackArmsRow, standIns := [], harness := (true, "c961ea9da6d31ec0744368c99dd1e70517042a9c0d698c0c510b85d1fc68b4a7"), looks := false }, kinds := [], alts := [], laidByText := true, laidKinds := [.data], laidTests := true, laidLooks := .later }
def StackArmsCardSaid : Prop := Claim7.holds Tryd.pinned (.plain (OpenSpec.ofChange stackArmsSpec)) stackArmsCard

/-- THE TIED CARD OF 'steeplejacklaw02.StackOpens'. -/
def stackOpensCard : Claim7 := { stood := { row := stackOpensRow, standIns := [], harness := (true, "c961ea9da6d31ec0744368c99dd1e70517042a9c0d698c0c510b85d1fc68b4a7"), looks := false }, kinds := [], alts := [], laidByText := true, laidKinds := [.data], laidTests := true, laidLooks := .later }
def StackOpensCardSaid : Prop := Claim7.holds Tryd.pinned (.plain (OpenSpec.ofChange stackOpensSpec)) stackOpensCard

/-- THE TIED CARD OF 'steeplejacklaw02.StackSafe'. -/
def stackSafeCard : Claim7 := { stood := { row := stackSafeRow, standIns := [], harness := (true, "c961ea9da6d31ec0744368c99dd1e70517042a9c0d698c0c510b85d1fc68b4a7"), looks := false }, kinds := [], alts := [], laidByText := true, laidKinds := [.data], laidTests := true, laidLooks := .later }
def StackSafeCardSaid : Prop := Claim7.holds Tryd.pinned (.plain (OpenSpec.ofChange stackSafeSpec)) stackSafeCard

/-- THE TIED CARD OF 'steeplejacklaw02.StackWinds'. -/
def stackWindsCard : Claim7 := { stood := { row := stackWindsRow, standIns := [], harness := (true, "c961ea9da6d31ec0744368c99dd1e70517042a9c0d698c0c510b85d1fc68b4a7"), looks := false }, kinds := [], alts := [], laidByText := true, laidKinds := [.data], laidTests := true, laidLooks := .later }
def StackWindsCardSaid : Prop := Claim7.holds Tryd.pinned (.plain (OpenSpec.ofChange stackWindsSpec)) stackWindsCard

/-- THE TIED CARD OF 'steeplejacklaw02.StackMakes'. -/
def stackMakesCard : Claim7 := { stood := { row := stackMakesRow, standIns := [], harness := (true, "c961ea9da6d31ec0744368c99dd1e70517042a9c0d698c0c510b85d1fc68b4a7"), looks := false }, kinds := [], alts := [], laidByText := true, laidKinds := [.data], laidTests := true, laidLooks := .later }
def StackMakesCardSaid : Prop := Claim7.holds Tryd.pinned (.plain (OpenSpec.ofChange stackMakesSpec)) stackMakesCard

/-- THE TIED CARD OF 'steeplejacklaw02.StackMoves'. -/
def stackMovesCard : Claim7 := { stood := { row := stackMovesRow, standIns := [], harness := (true, "c961ea9da6d31ec0744368c99dd1e70517042a9c0d698c0c510b85d1fc68b4a7"), looks := false }, kinds := [], alts := [], laidByText := true, laidKinds := [.data], laidTests := true, laidLooks := .later }
def StackMovesCardSaid : Prop := Claim7.holds Tryd.pinned (.plain (OpenSpec.ofChange stackMovesSpec)) stackMovesCard

/-- THE TIED CARD OF 'steeplejacklaw02.StackTurns'. -/
def stackTurnsCard : Claim7 := { stood := { row := stackTurnsRow, standIns := [], harness := (true, "c961ea9da6d31ec0744368c99dd1e70517042a9c0d698c0c510b85d1fc68b4a7"), looks := false }, kinds := [], alts := [], laidByText := true, laidKinds := [.data], laidTests := true, laidLooks := .later }
def StackTurnsCardSaid : Prop := Claim7.holds Tryd.pinned (.plain (OpenSpec.ofChange stackTurnsSpec)) stackTurnsCard

/-- THE TIED CARD OF 'steeplejacklaw02.StackParts'. -/
def stackPartsCard : Claim7 := { stood := { row := stackPartsRow, standIns := [], harness := (true, "c961ea9da6d31ec0744368c99dd1e70517042a9c0d698c0c510b85d1fc68b4a7"), looks := false }, kinds := [], alts := [], laidByText := true, laidKinds := [.data], laidTests := true, laidLooks := .later }
def StackPartsCardSaid : Prop := Claim7.holds Tryd.pinned (.plain (OpenSpec.ofChange stackPartsSpec)) stackPartsCard

/-- THE TIED CARD OF 'steeplejacklaw02.StackHolds'. -/
def stackHoldsCard : Claim7 := { stood := { row := stackHoldsRow, standIns := [], harness := (true, "c961ea9da6d31ec0744368c99dd1e70517042a9c0d698c0c510b85d1fc68b4a7"), looks := false }, kinds := [], alts := [], laidByText := true, laidKinds := [.data], laidTests := true, laidLooks := .later }
def StackHoldsCardSaid : Prop := Claim7.holds Tryd.pinned (.plain (OpenSpec.ofChange stackHoldsSpec)) stackHoldsCard

/-- THE TIED CARD OF 'steeplejacklaw02.StackSplits'. -/
def stackSplitsCard : Claim7 := { stood := { row := stackSplitsRow, standIns := [], harness := (true, "c961ea9da6d31ec0744368c99dd1e70517042a9c0d698c0c510b85d1fc68b4a7"), looks := false }, kinds := [], alts := [], laidByText := true, laidKinds := [.data], laidTests := true, laidLooks := .later }
def StackSplitsCardSaid : Prop := Claim7.holds Tryd.pinned (.plain (OpenSpec.ofChange stackSplitsSpec)) stackSplitsCard

/-- THE SECOND FORM's CARD OF 'steeplejacklaw02.StackSums'. -/
def stackSumsUptoCard : Claim7 := { stood := { row := stackSumsUptoRow, standIns := [], harness := (true, "c961ea9da6d31ec0744368c99dd1e70517042a9c0d698c0c510b85d1fc68b4a7"), looks := false }, kinds := [], alts := [], laidByText := true, laidKinds := [.data], laidTests := true, laidLooks := .later }
def StackSumsUptoCardSaid : Prop := Claim7.holds Tryd.pinned (.plain (OpenSpec.upto stackSumsSpec)) stackSumsUptoCard

/-- THE SECOND FORM's CARD OF 'steeplejacklaw02.StackArms'. -/
def stackArmsUptoCard : Claim7 := { stood := { row := stackArmsUptoRow, standIns := [], harness := (true, "c961ea9da6d31ec0744368c99dd1e70517042a9c0d698c0c510b85d1fc68b4a7"), looks := false }, kinds := [], alts := [], laidByText := true, laidKinds := [.data], laidTests := true, laidLooks := .later }
def StackArmsUptoCardSaid : Prop := Claim7.holds Tryd.pinned (.plain (OpenSpec.upto stackArmsSpec)) stackArmsUptoCard

/-- THE SECOND FORM's CARD OF 'steeplejacklaw02.StackOpens'. -/
def stackOpensUptoCard : Claim7 := { stood := { row := stackOpensUptoRow, standIns := [], harness := (true, "c961ea9da6d31ec0744368c99dd1e70517042a9c0d698c0c510b85d1fc68b4a7"), looks := false }, kinds := [], alts := [], laidByText := true, laidKinds := [.data], laidTests := true, laidLooks := .later }
def StackOpensUptoCardSaid : Prop := Claim7.holds Tryd.pinned (.plain (OpenSpec.upto stackOpensSpec)) stackOpensUptoCard

/-- THE SECOND FORM's CARD OF 'steeplejacklaw02.StackSafe'. -/
def stackSafeUptoCard : Claim7 := { stood := { row := stackSafeUptoRow, standIns := [], harness := (true, "c961ea9da6d31ec0744368c99dd1e70517042a9c0d698c0c510b85d1fc68b4a7"), looks := false }, kinds := [], alts := [], laidByText := true, laidKinds := [.data], laidTests := true, laidLooks := .later }
def StackSafeUptoCardSaid : Prop := Claim7.holds Tryd.pinned (.plain (OpenSpec.upto stackSafeSpec)) stackSafeUptoCard

/-- THE SECOND FORM's CARD OF 'steeplejacklaw02.StackWinds'. -/
def stackWindsUptoCard : Claim7 := { stood := { row := stackWindsUptoRow, standIns := [], harness := (true, "c961ea9da6d31ec0744368c99dd1e70517042a9c0d698c0c510b85d1fc68b4a7"), looks := false }, kinds := [], alts := [], laidByText := true, laidKinds := [.data], laidTests := true, laidLooks := .later }
def StackWindsUptoCardSaid : Prop := Claim7.holds Tryd.pinned (.plain (OpenSpec.upto stackWindsSpec)) stackWindsUptoCard

/-- THE SECOND FORM's CARD OF 'steeplejacklaw02.StackMakes'. -/
def stackMakesUptoCard : Claim7 := { stood := { row := stackMakesUptoRow, standIns := [], harness := (true, "c961ea9da6d31ec0744368c99dd1e70517042a9c0d698c0c510b85d1fc68b4a7"), looks := false }, kinds := [], alts := [], laidByText := true, laidKinds := [.data], laidTests := true, laidLooks := .later }
def StackMakesUptoCardSaid : Prop := Claim7.holds Tryd.pinned (.plain (OpenSpec.upto stackMakesSpec)) stackMakesUptoCard

/-- THE SECOND FORM's CARD OF 'steeplejacklaw02.StackMoves'. -/
def stackMovesUptoCard : Claim7 := { stood := { row := stackMovesUptoRow, standIns := [], harness := (true, "c961ea9da6d31ec0744368c99dd1e70517042a9c0d698c0c510b85d1fc68b4a7"), looks := false }, kinds := [], alts := [], laidByText := true, laidKinds := [.data], laidTests := true, laidLooks := .later }
def StackMovesUptoCardSaid : Prop := Claim7.holds Tryd.pinned (.plain (OpenSpec.upto stackMovesSpec)) stackMovesUptoCard

/-- THE SECOND FORM's CARD OF 'steeplejacklaw02.StackTurns'. -/
def stackTurnsUptoCard : Claim7 := { stood := { row := stackTurnsUptoRow, standIns := [], harness := (true, "c961ea9da6d31ec0744368c99dd1e70517042a9c0d698c0c510b85d1fc68b4a7"), looks := false }, kinds := [], alts := [], laidByText := true, laidKinds := [.data], laidTests := true, laidLooks := .later }
def StackTurnsUptoCardSaid : Prop := Claim7.holds Tryd.pinned (.plain (OpenSpec.upto stackTurnsSpec)) stackTurnsUptoCard

/-- THE SECOND FORM's CARD OF 'steeplejacklaw02.StackParts'. -/
def stackPartsUptoCard : Claim7 := { stood := { row := stackPartsUptoRow, standIns := [], harness := (true, "c961ea9da6d31ec0744368c99dd1e70517042a9c0d698c0c510b85d1fc68b4a7"), looks := false }, kinds := [], alts := [], laidByText := true, laidKinds := [.data], laidTests := true, laidLooks := .later }
def StackPartsUptoCardSaid : Prop := Claim7.holds Tryd.pinned (.plain (OpenSpec.upto stackPartsSpec)) stackPartsUptoCard

/-- THE SECOND FORM's CARD OF 'steeplejacklaw02.StackHolds'. -/
def stackHoldsUptoCard : Claim7 := { stood := { row := stackHoldsUptoRow, standIns := [], harness := (true, "c961ea9da6d31ec0744368c99dd1e70517042a9c0d698c0c510b85d1fc68b4a7"), looks := false }, kinds := [], alts := [], laidByText := true, laidKinds := [.data], laidTests := true, laidLooks := .later }
def StackHoldsUptoCardSaid : Prop := Claim7.holds Tryd.pinned (.plain (OpenSpec.upto stackHoldsSpec)) stackHoldsUptoCard

/-- THE SECOND FORM's CARD OF 'steeplejacklaw02.StackSplits'. -/
def stackSplitsUptoCard : Claim7 := { stood := { row := stackSplitsUptoRow, standIns := [], harness := (true, "c961ea9da6d31ec0744368c99dd1e70517042a9c0d698c0c510b85d1fc68b4a7"), looks := false }, kinds := [], alts := [], laidByText := true, laidKinds := [.data], laidTests := true, laidLooks := .later }
def StackSplitsUptoCardSaid : Prop := Claim7.holds Tryd.pinned (.plain (OpenSpec.upto stackSplitsSpec)) stackSplitsUptoCard
end Rows
end Go.Proofs.YtplhbklfaokjbaaDoor
