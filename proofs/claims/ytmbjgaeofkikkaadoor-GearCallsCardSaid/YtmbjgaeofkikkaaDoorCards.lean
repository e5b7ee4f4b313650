/-
  DERIVED. GIVEN WITH THE SEED: THE CARDS: each row of YtmbjgaeofkikkaaDoorRows.lean that lists a variable, with what it lists TIED to the program's text (the seventh form; the later family's looks); each row that meets fmt, with fmt's text TOLD by the authors' own Lean function (tested against real Go, not proved from fmt's source: count such statements apart). THE CARD IS WHAT COUNTS. Prove the row's statement (the work); the ties are given (YtmbjgaeofkikkaaDoorTie.lean); close each card by the builder's one call (the guide's Derived/Test/ToyasCard.lean, 'card_holds'). Laid BY PROGRAM, IN A SANDBOX (cutbox-door.mjs). By AI agents, Wed Nov 11 2026. No macro, syntax, notation, axiom, sorry.
-/
import Derived.Test.YtmbjgaeofkikkaaDoorRows
import GoSem.ClaimSeven
namespace Go.Proofs.YtmbjgaeofkikkaaDoor
namespace Rows

/-- THE TIED CARD OF 'steeplejacklaw07.GearFinds'. -/
def gearFindsCard : Claim7 := { stood := { row := gearFindsRow, standIns := [], harness := (true, "d8f43cebefd7576708bb3477cf804489d3504fdc49e439788e2bb645017e7089"), looks := false }, kinds := [], alts := [], laidByText := true, laidKinds := [.data, .pinned], laidTests := true, laidLooks := .later }
def GearFindsCardSaid : Prop := Claim7.holds Tryd.pinned (.plain (OpenSpec.ofChange gearFindsSpec)) gearFindsCard

/-- THE TIED CARD OF 'steeplejacklaw07.GearBears'. -/
def gearBearsCard : Claim7 := { stood := { row := gearBearsRow, standIns := [], harness := (true, "d8f43cebefd7576708bb3477cf804489d3504fdc49e439788e2bb645017e7089"), looks := false }, kinds := [], alts := [], laidByText := true, laidKinds := [.data, .pinned], laidTests := true, laidLooks := .later }
def GearBearsCardSaid : Prop := Claim7.holds Tryd.pinned (.plain (OpenSpec.ofChange gearBearsSpec)) gearBearsCard

/-- THE TIED CARD OF 'steeplejacklaw07.GearMay'. -/
def gearMayCard : Claim7 := { stood := { row := gearMayRow, standIns := [], harness := (true, "d8f43cebefd7576708bb3477cf804489d3504fdc49e439788e2bb645017e7089"), looks := false }, kinds := [], alts := [], laidByText := true, laidKinds := [.data, .pinned], laidTests := true, laidLooks := .later }
def GearMayCardSaid : Prop := Claim7.holds Tryd.pinned (.plain (OpenSpec.ofChange gearMaySpec)) gearMayCard

/-- THE TIED CARD OF 'steeplejacklaw07.GearMost'. -/
def gearMostCard : Claim7 := { stood := { row := gearMostRow, standIns := [], harness := (true, "d8f43cebefd7576708bb3477cf804489d3504fdc49e439788e2bb645017e7089"), looks := false }, kinds := [], alts := [], laidByText := true, laidKinds := [.data, .pinned], laidTests := true, laidLooks := .later }
def GearMostCardSaid : Prop := Claim7.holds Tryd.pinned (.plain (OpenSpec.ofChange gearMostSpec)) gearMostCard

/-- THE TIED CARD OF 'steeplejacklaw07.GearLess'. -/
def gearLessCard : Claim7 := { stood := { row := gearLessRow, standIns := [], harness := (true, "d8f43cebefd7576708bb3477cf804489d3504fdc49e439788e2bb645017e7089"), looks := false }, kinds := [], alts := [], laidByText := true, laidKinds := [.data, .pinned], laidTests := true, laidLooks := .later }
def GearLessCardSaid : Prop := Claim7.holds Tryd.pinned (.plain (OpenSpec.ofChange gearLessSpec)) gearLessCard

/-- THE TIED CARD OF 'steeplejacklaw07.GearCalls'. -/
def gearCallsCard : Claim7 := { stood := { row := gearCallsRow, standIns := [], harness := (true, "d8f43cebefd7576708bb3477cf804489d3504fdc49e439788e2bb645017e7089"), looks := false }, kinds := [], alts := [], laidByText := true, laidKinds := [.data, .pinned], laidTests := true, laidLooks := .later }
def GearCallsCardSaid : Prop := Claim7.holds Tryd.pinned (.plain (OpenSpec.ofChange gearCallsSpec)) gearCallsCard

/-- THE TIED CARD OF 'steeplejacklaw07.GearChanges'. -/
def gearChangesCard : Claim7 := { stood := { row := gearChangesRow, standIns := [], harness := (true, "d8f43cebefd7576708bb3477cf804489d3504fdc49e439788e2bb645017e7089"), looks := false }, kinds := [], alts := [], laidByText := true, laidKinds := [.data, .pinned], laidTests := true, laidLooks := .later }
def GearChangesCardSaid : Prop := Claim7.holds Tryd.pinned (.plain (OpenSpec.ofChange gearChangesSpec)) gearChangesCard

/-- THE SECOND FORM's CARD OF 'steeplejacklaw07.GearFinds'. -/
def gearFindsUptoCard : Claim7 := { stood := { row := gearFindsUptoRow, standIns := [], harness := (true, "d8f43cebefd7576708bb3477cf804489d3504fdc49e439788e2bb645017e7089"), looks := false }, kinds := [], alts := [], laidByText := true, laidKinds := [.data, .pinned], laidTests := true, laidLooks := .later }
def GearFindsUptoCardSaid : Prop := Claim7.holds Tryd.pinned (.plain (OpenSpec.upto gearFindsSpec)) gearFindsUptoCard

/-- THE SECOND FORM's CARD OF 'steeplejacklaw07.GearBears'. -/
def gearBearsUptoCard : Claim7 := { stood := { row := gearBearsUptoRow, standIns := [], harness := (true, "d8f43cebefd7576708bb3477cf804489d3504fdc49e439788e2bb645017e7089"), looks := false }, kinds := [], alts := [], laidByText := true, laidKinds := [.data, .pinned], laidTests := true, laidLooks := .later }
def GearBearsUptoCardSaid : Prop := Claim7.holds Tryd.pinned (.plain (OpenSpec.upto gearBearsSpec)) gearBearsUptoCard

/-- THE SECOND FORM's CARD OF 'steeplejacklaw07.GearMay'. -/
def gearMayUptoCard : Claim7 := { stood := { row := gearMayUptoRow, standIns := [], harness := (true, "d8f43cebefd7576708bb3477cf804489d3504fdc49e439788e2bb645017e7089"), looks := false }, kinds := [], alts := [], laidByText := true, laidKinds := [.data, .pinned], laidTests := true, laidLooks := .later }
def GearMayUptoCardSaid : Prop := Claim7.holds Tryd.pinned (.plain (OpenSpec.upto gearMaySpec)) gearMayUptoCard

/-- THE SECOND FORM's CARD OF 'steeplejacklaw07.GearMost'. -/
def gearMostUptoCard : Claim7 := { stood := { row := gearMostUptoRow, standIns := [], harness := (true, "d8f43cebefd7576708bb3477cf804489d3504fdc49e439788e2bb645017e7089"), looks := false }, kinds := [], alts := [], laidByText := true, laidKinds := [.data, .pinned], laidTests := true, laidLooks := .later }
def GearMostUptoCardSaid : Prop := Claim7.holds Tryd.pinned (.plain (OpenSpec.upto gearMostSpec)) gearMostUptoCard

/-- THE SECOND FORM's CARD OF 'steeplejacklaw07.GearLess'. -/
def gearLessUptoCard : Claim7 := { stood := { row := gearLessUptoRow, standIns := [], harness := (true, "d8f43cebefd7576708bb3477cf804489d3504fdc49e439788e2bb645017e7089"), looks := false }, kinds := [], alts := [], laidByText := true, laidKinds := [.data, .pinned], laidTests := true, laidLooks := .later }
def GearLessUptoCardSaid : Prop := Claim7.holds Tryd.pinned (.plain (OpenSpec.upto gearLessSpec)) gearLessUptoCard

/-- THE SECOND FORM's CARD OF 'steeplejacklaw07.GearCalls'. -/
def gearCallsUptoCard : Claim7 := { stood := { row := gearCallsUptoRow, standIns := [], harness := (true, "d8f43cebefd7576708bb3477cf804489d3504fdc49e439788e2bb645017e7089"), looks := false }, kinds := [], alts := [], laidByText := true, laidKinds := [.data, .pinned], laidTests := true, laidLooks := .later }
def GearCallsUptoCardSaid : Prop := Claim7.holds Tryd.pinned (.plain (OpenSpec.upto gearCallsSpec)) gearCallsUptoCard

/-- THE SECOND FORM's CARD OF 'steeplejacklaw07.GearChanges'. -/
def gearChangesUptoCard : Claim7 := { stood := { row := gearChangesUptoRow, standIns := [], harness := (true, "d8f43cebefd7576708bb3477cf804489d3504fdc49e439788e2bb645017e7089"), looks := false }, kinds := [], alts := [], laidByText := true, laidKinds := [.data, .pinned], laidTests := true, laidLooks := .later }
def GearChangesUptoCardSaid : Prop := Claim7.holds Tryd.pinned (.plain (OpenSpec.upto gearChangesSpec)) gearChangesUptoCard
end Rows
end Go.Proofs.YtmbjgaeofkikkaaDoor
