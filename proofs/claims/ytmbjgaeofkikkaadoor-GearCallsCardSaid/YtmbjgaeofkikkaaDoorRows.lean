/-
  NARROWER THAN 'FOR EVERY INPUT', by the rows' own cells (each row's printed sentence says how): GearFinds: laid · GearBears: laid · GearMay: laid · GearMost: laid · GearLess: laid · GearCalls: laid · GearChanges: laid.
  DERIVED. THE GIVEN ROWS OF THIS SEAT. 7 by the template 'for every input the law returns true; each argument reads behind the call as it read before'; 0 by the template 'total and deterministic' (their statements: YtmbjgaeofkikkaaDoorTotals.lean).
  GIVEN WITH THE SEED: the statements are not yours to turn. If you find one false, say at which input.
  Laid BY PROGRAM, IN A SANDBOX (cutbox-rows.mjs): the forced cells as the released guide's own fill.sh prints them over the translation 0c6703bdc3cec9e0… (all of the seat's roots in one cut). By AI agents, Wed Nov 11 2026. No macro, syntax, notation, axiom, sorry.
-/
import Derived.Test.YtmbjgaeofkikkaaDoorChecked
import GoSem.PinnedTables
import GoSem.Claim
import GoSem.ClaimJoined
import GoSem.ClaimMapViews
import Derived.JoinedTies
import Derived.KernelRfl
namespace Go.Proofs.YtmbjgaeofkikkaaDoor
/- THE CELL 'sum', in the pinned program and in every row, IS THE sha256 OF THE DUMP (.gsa) THAT YtmbjgaeofkikkaaDoorProg.lean LOADS. Nothing in Lean hashes anything: it is a label: what it is worth is what the hold of that sum in a sandbox is worth. -/
noncomputable def Tryd.pinned : Pinned := { name := "ytmbjgaeofkikkaadoor", sum := "0c6703bdc3cec9e0f14da560b67f4c1171e5f8ee03ed77b029f2ed30fdf4f766", checked := Tryd.checked }
namespace Rows
def none {H : Type} : Left H := { results := [], args := [] }

/- WHAT THE LISTED PACKAGE-LEVEL VARIABLES READ AS WHEN THE CALL BEGINS. Each datum BY PROGRAM (the guide's laid-datum.mjs) off the statement by which the dump's own 'gosem.cut.vars' lays the variable. In a bare row this is a premise. The card (YtmbjgaeofkikkaaDoorCards.lean) ties it to the program's text. -/
def laid_unicode_utf8_acceptRanges {H : Type} : DataW H := .agg [.agg [.lit (.int .u8 128), .lit (.int .u8 191)], .agg [.lit (.int .u8 160), .lit (.int .u8 191)], .agg [.lit (.int .u8 128), .lit (.int .u8 159)], .agg [.lit (.int .u8 144), .lit (.int .u8 191)], .agg [.lit (.int .u8 128), .lit (.int .u8 143)], .agg [.lit (.int .u8 0), .lit (.int .u8 0)], .agg [.lit (.int .u8 0), .lit (.int .u8 0)], .agg [.lit (.int .u8 0), .lit (.int .u8 0)], .agg [.lit (.int .u8 0), .lit (.int .u8 0)], .agg [.lit (.int .u8 0), .lit (.int .u8 0)], .agg [.lit (.int .u8 0), .lit (.int .u8 0)], .agg [.lit (.int .u8 0), .lit (.int .u8 0)], .agg [.lit (.int .u8 0), .lit (.int .u8 0)], .agg [.lit (.int .u8 0), .lit (.int .u8 0)], .agg [.lit (.int .u8 0), .lit (.int .u8 0)], .agg [.lit (.int .u8 0), .lit (.int .u8 0)]]
/-- One of Go's own tables, pinned by name: the form's constant. -/
def laid_unicode_utf8_first : DataW Unit := Go.Pinned.utf8First

/-- 'steeplejacklaw07.GearFinds': WHATEVER THE INPUT: true; the input reads as it did. -/
def gearFindsSpec : ChangeSpec := { name := "gearFinds", fn := fun _ => fun
  | [d1, d2, d3] => { results := [.lit (.bool true)], args := [d1, d2, d3] }
  | _ => none }
def gearFindsRow : OpenClaim := { program := "ytmbjgaeofkikkaadoor", sum := "0c6703bdc3cec9e0f14da560b67f4c1171e5f8ee03ed77b029f2ed30fdf4f766", func := "steeplejack/steeplejacklaw07.GearFinds", spec := "gearFinds", inPlace := ["internal/bytealg.IndexByteString", "internal/bytealg.IndexString"], unfollowed := true, recurses := true, named := ["internal/bytealg.MaxLen", "unicode/utf8.first", "unicode/utf8.acceptRanges"], apart := false, laid := [("unicode/utf8.acceptRanges", laid_unicode_utf8_acceptRanges), ("unicode/utf8.first", laid_unicode_utf8_first)] }
def GearFindsSaid : Prop := gearFindsRow.holds Tryd.pinned (OpenSpec.ofChange gearFindsSpec)

/-- ITS FALSE NEIGHBOUR: 'it returns false'. Refute it at one input. -/
def gearFindsWrong : ChangeSpec := { name := "gearFinds", fn := fun _ => fun
  | [d1, d2, d3] => { results := [.lit (.bool false)], args := [d1, d2, d3] }
  | _ => none }
def GearFindsWrongFalsely : Prop := gearFindsRow.holds Tryd.pinned (OpenSpec.ofChange gearFindsWrong)

/-- 'steeplejacklaw07.GearBears': WHATEVER THE INPUT: true; the input reads as it did. -/
def gearBearsSpec : ChangeSpec := { name := "gearBears", fn := fun _ => fun
  | [d1, d2, d3] => { results := [.lit (.bool true)], args := [d1, d2, d3] }
  | _ => none }
def gearBearsRow : OpenClaim := { program := "ytmbjgaeofkikkaadoor", sum := "0c6703bdc3cec9e0f14da560b67f4c1171e5f8ee03ed77b029f2ed30fdf4f766", func := "steeplejack/steeplejacklaw07.GearBears", spec := "gearBears", inPlace := ["internal/bytealg.IndexByteString", "internal/bytealg.IndexString"], unfollowed := true, recurses := true, named := ["internal/bytealg.MaxLen", "unicode/utf8.first", "unicode/utf8.acceptRanges"], apart := false, laid := [("unicode/utf8.acceptRanges", laid_unicode_utf8_acceptRanges), ("unicode/utf8.first", laid_unicode_utf8_first)] }
def GearBearsSaid : Prop := gearBearsRow.holds Tryd.pinned (OpenSpec.ofChange gearBearsSpec)

/-- ITS FALSE NEIGHBOUR: 'it returns false'. Refute it at one input. -/
def gearBearsWrong : ChangeSpec := { name := "gearBears", fn := fun _ => fun
  | [d1, d2, d3] => { results := [.lit (.bool false)], args := [d1, d2, d3] }
  | _ => none }
def GearBearsWrongFalsely : Prop := gearBearsRow.holds Tryd.pinned (OpenSpec.ofChange gearBearsWrong)

/-- 'steeplejacklaw07.GearMay': WHATEVER THE INPUT: true; the input reads as it did. -/
def gearMaySpec : ChangeSpec := { name := "gearMay", fn := fun _ => fun
  | [d1, d2, d3, d4, d5] => { results := [.lit (.bool true)], args := [d1, d2, d3, d4, d5] }
  | _ => none }
def gearMayRow : OpenClaim := { program := "ytmbjgaeofkikkaadoor", sum := "0c6703bdc3cec9e0f14da560b67f4c1171e5f8ee03ed77b029f2ed30fdf4f766", func := "steeplejack/steeplejacklaw07.GearMay", spec := "gearMay", inPlace := ["internal/bytealg.IndexByteString", "internal/bytealg.IndexString"], unfollowed := true, recurses := true, named := ["internal/bytealg.MaxLen", "unicode/utf8.first", "unicode/utf8.acceptRanges"], apart := false, laid := [("unicode/utf8.acceptRanges", laid_unicode_utf8_acceptRanges), ("unicode/utf8.first", laid_unicode_utf8_first)] }
def GearMaySaid : Prop := gearMayRow.holds Tryd.pinned (OpenSpec.ofChange gearMaySpec)

/-- ITS FALSE NEIGHBOUR: 'it returns false'. Refute it at one input. -/
def gearMayWrong : ChangeSpec := { name := "gearMay", fn := fun _ => fun
  | [d1, d2, d3, d4, d5] => { results := [.lit (.bool false)], args := [d1, d2, d3, d4, d5] }
  | _ => none }
def GearMayWrongFalsely : Prop := gearMayRow.holds Tryd.pinned (OpenSpec.ofChange gearMayWrong)

/-- 'steeplejacklaw07.GearMost': WHATEVER THE INPUT: true; the input reads as it did. -/
def gearMostSpec : ChangeSpec := { name := "gearMost", fn := fun _ => fun
  | [d1, d2, d3, d4] => { results := [.lit (.bool true)], args := [d1, d2, d3, d4] }
  | _ => none }
def gearMostRow : OpenClaim := { program := "ytmbjgaeofkikkaadoor", sum := "0c6703bdc3cec9e0f14da560b67f4c1171e5f8ee03ed77b029f2ed30fdf4f766", func := "steeplejack/steeplejacklaw07.GearMost", spec := "gearMost", inPlace := ["internal/bytealg.IndexByteString", "internal/bytealg.IndexString"], unfollowed := true, recurses := true, named := ["internal/bytealg.MaxLen", "unicode/utf8.first", "unicode/utf8.acceptRanges"], apart := false, laid := [("unicode/utf8.acceptRanges", laid_unicode_utf8_acceptRanges), ("unicode/utf8.first", laid_unicode_utf8_first)] }
def GearMostSaid : Prop := gearMostRow.holds Tryd.pinned (OpenSpec.ofChange gearMostSpec)

/-- ITS FALSE NEIGHBOUR: 'it returns false'. Refute it at one input. -/
def gearMostWrong : ChangeSpec := { name := "gearMost", fn := fun _ => fun
  | [d1, d2, d3, d4] => { results := [.lit (.bool false)], args := [d1, d2, d3, d4] }
  | _ => none }
def GearMostWrongFalsely : Prop := gearMostRow.holds Tryd.pinned (OpenSpec.ofChange gearMostWrong)

/-- 'steeplejacklaw07.GearLess': WHATEVER THE INPUT: true; the input reads as it did. -/
def gearLessSpec : ChangeSpec := { name := "gearLess", fn := fun _ => fun
  | [d1, d2, d3, d4, d5, d6, d7] => { results := [.lit (.bool true)], args := [d1, d2, d3, d4, d5, d6, d7] }
  | _ => none }
def gearLessRow : OpenClaim := { program := "ytmbjgaeofkikkaadoor", sum := "0c6703bdc3cec9e0f14da560b67f4c1171e5f8ee03ed77b029f2ed30fdf4f766", func := "steeplejack/steeplejacklaw07.GearLess", spec := "gearLess", inPlace := ["internal/bytealg.IndexByteString", "internal/bytealg.IndexString"], unfollowed := true, recurses := true, named := ["internal/bytealg.MaxLen", "unicode/utf8.first", "unicode/utf8.acceptRanges"], apart := false, laid := [("unicode/utf8.acceptRanges", laid_unicode_utf8_acceptRanges), ("unicode/utf8.first", laid_unicode_utf8_first)] }
def GearLessSaid : Prop := gearLessRow.holds Tryd.pinned (OpenSpec.ofChange gearLessSpec)

/-- ITS FALSE NEIGHBOUR: 'it returns false'. Refute it at one input. -/
def gearLessWrong : ChangeSpec := { name := "gearLess", fn := fun _ => fun
  | [d1, d2, d3, d4, d5, d6, d7] => { results := [.lit (.bool false)], args := [d1, d2, d3, d4, d5, d6, d7] }
  | _ => none }
def GearLessWrongFalsely : Prop := gearLessRow.holds Tryd.pinned (OpenSpec.ofChange gearLessWrong)

/-- 'steeplejacklaw07.GearCalls': WHATEVER THE INPUT: true; the input reads as it did. -/
def gearCallsSpec : ChangeSpec := { name := "gearCalls", fn := fun _ => fun
  | [d1, d2, d3, d4, d5] => { results := [.lit (.bool true)], args := [d1, d2, d3, d4, d5] }
  | _ => none }
def gearCallsRow : OpenClaim := { program := "ytmbjgaeofkikkaadoor", sum := "0c6703bdc3cec9e0f14da560b67f4c1171e5f8ee03ed77b029f2ed30fdf4f766", func := "steeplejack/steeplejacklaw07.GearCalls", spec := "gearCalls", inPlace := ["internal/bytealg.IndexByteString", "internal/bytealg.IndexString"], unfollowed := true, recurses := true, named := ["internal/bytealg.MaxLen", "unicode/utf8.first", "unicode/utf8.acceptRanges"], apart := false, laid := [("unicode/utf8.acceptRanges", laid_unicode_utf8_acceptRanges), ("unicode/utf8.first", laid_unicode_utf8_first)] }
def GearCallsSaid : Prop := gearCallsRow.holds Tryd.pinned (OpenSpec.ofChange gearCallsSpec)

/-- ITS FALSE NEIGHBOUR: 'it returns false'. Refute it at one input. -/
def gearCallsWrong : ChangeSpec := { name := "gearCalls", fn := fun _ => fun
  | [d1, d2, d3, d4, d5] => { results := [.lit (.bool false)], args := [d1, d2, d3, d4, d5] }
  | _ => none }
def GearCallsWrongFalsely : Prop := gearCallsRow.holds Tryd.pinned (OpenSpec.ofChange gearCallsWrong)

/-- 'steeplejacklaw07.GearChanges': WHATEVER THE INPUT: true; the input reads as it did. -/
def gearChangesSpec : ChangeSpec := { name := "gearChanges", fn := fun _ => fun
  | [d1, d2, d3, d4, d5] => { results := [.lit (.bool true)], args := [d1, d2, d3, d4, d5] }
  | _ => none }
def gearChangesRow : OpenClaim := { program := "ytmbjgaeofkikkaadoor", sum := "0c6703bdc3cec9e0f14da560b67f4c1171e5f8ee03ed77b029f2ed30fdf4f766", func := "steeplejack/steeplejacklaw07.GearChanges", spec := "gearChanges", inPlace := ["internal/bytealg.IndexByteString", "internal/bytealg.IndexString"], unfollowed := true, recurses := true, named := ["internal/bytealg.MaxLen", "unicode/utf8.first", "unicode/utf8.acceptRanges"], apart := false, laid := [("unicode/utf8.acceptRanges", laid_unicode_utf8_acceptRanges), ("unicode/utf8.first", laid_unicode_utf8_first)] }
def GearChangesSaid : Prop := gearChangesRow.holds Tryd.pinned (OpenSpec.ofChange gearChangesSpec)

/-- ITS FALSE NEIGHBOUR: 'it returns false'. Refute it at one input. -/
def gearChangesWrong : ChangeSpec := { name := "gearChanges", fn := fun _ => fun
  | [d1, d2, d3, d4, d5] => { results := [.lit (.bool false)], args := [d1, d2, d3, d4, d5] }
  | _ => none }
def GearChangesWrongFalsely : Prop := gearChangesRow.holds Tryd.pinned (OpenSpec.ofChange gearChangesWrong)

/- THE SECOND FORM. 'bulk': how many values and letters a reading holds, each counted each time it is reached (what is shared counts as often as it is met; a slice's spare places count too). A statement '..UptoSaid' is the law's where the arguments, and the package variables that the reading takes, are together of bulk at most 1048576: NARROWER than '..Said'. Prove '..Said' where nothing that the law and all that it calls make is longer than what came in: it says more and counts as full. Else prove '..UptoSaid'. A law counts once. -/
mutual
def uptoBulk {H : Type} : DataW H → Nat
  | .lit (.string bytes) => bytes.length + 1
  | .lit _ => 1
  | .nil => 1
  | .ptr d => uptoBulk d + 1
  | .slice elems spare => uptoBulkAll elems + uptoBulkAll spare + 1
  | .agg parts => uptoBulkAll parts + 1
  | .iface _ d => uptoBulk d + 1
  | .map entries => uptoBulkEntries entries + 1
  | .held _ => 1
def uptoBulkAll {H : Type} : List (DataW H) → Nat
  | [] => 0
  | d :: r => uptoBulk d + uptoBulkAll r
def uptoBulkEntries {H : Type} : List (Lit × DataW H) → Nat
  | [] => 0
  | x :: r => uptoBulkEntry x + uptoBulkEntries r
def uptoBulkEntry {H : Type} : Lit × DataW H → Nat
  | (.string bytes, d) => bytes.length + uptoBulk d + 1
  | (_, d) => uptoBulk d + 1
 end
def uptoSmall : (H : Type) → List (DataW H) → Bool := fun _ ds => decide (uptoBulkAll ds ≤ 1048576)
def OpenSpec.upto (s : _root_.Go.ChangeSpec) : _root_.Go.OpenSpec := { _root_.Go.OpenSpec.ofChange s with cond := some uptoSmall }

/-- 'steeplejacklaw07.GearFinds', WHERE WHAT IT READS IS OF BULK AT MOST 1048576: true; the input reads as it did. -/
def gearFindsUptoRow : OpenClaim := { program := "ytmbjgaeofkikkaadoor", sum := "0c6703bdc3cec9e0f14da560b67f4c1171e5f8ee03ed77b029f2ed30fdf4f766", func := "steeplejack/steeplejacklaw07.GearFinds", spec := "gearFinds", inPlace := ["internal/bytealg.IndexByteString", "internal/bytealg.IndexString"], unfollowed := true, recurses := true, named := ["internal/bytealg.MaxLen", "unicode/utf8.first", "unicode/utf8.acceptRanges"], apart := false, laid := [("unicode/utf8.acceptRanges", laid_unicode_utf8_acceptRanges), ("unicode/utf8.first", laid_unicode_utf8_first)], narrowed := true }
def GearFindsUptoSaid : Prop := gearFindsUptoRow.holds Tryd.pinned (OpenSpec.upto gearFindsSpec)

/-- 'steeplejacklaw07.GearBears', WHERE WHAT IT READS IS OF BULK AT MOST 1048576: true; the input reads as it did. -/
def gearBearsUptoRow : OpenClaim := { program := "ytmbjgaeofkikkaadoor", sum := "0c6703bdc3cec9e0f14da560b67f4c1171e5f8ee03ed77b029f2ed30fdf4f766", func := "steeplejack/steeplejacklaw07.GearBears", spec := "gearBears", inPlace := ["internal/bytealg.IndexByteString", "internal/bytealg.IndexString"], unfollowed := true, recurses := true, named := ["internal/bytealg.MaxLen", "unicode/utf8.first", "unicode/utf8.acceptRanges"], apart := false, laid := [("unicode/utf8.acceptRanges", laid_unicode_utf8_acceptRanges), ("unicode/utf8.first", laid_unicode_utf8_first)], narrowed := true }
def GearBearsUptoSaid : Prop := gearBearsUptoRow.holds Tryd.pinned (OpenSpec.upto gearBearsSpec)

/-- 'steeplejacklaw07.GearMay', WHERE WHAT IT READS IS OF BULK AT MOST 1048576: true; the input reads as it did. -/
def gearMayUptoRow : OpenClaim := { program := "ytmbjgaeofkikkaadoor", sum := "0c6703bdc3cec9e0f14da560b67f4c1171e5f8ee03ed77b029f2ed30fdf4f766", func := "steeplejack/steeplejacklaw07.GearMay", spec := "gearMay", inPlace := ["internal/bytealg.IndexByteString", "internal/bytealg.IndexString"], unfollowed := true, recurses := true, named := ["internal/bytealg.MaxLen", "unicode/utf8.first", "unicode/utf8.acceptRanges"], apart := false, laid := [("unicode/utf8.acceptRanges", laid_unicode_utf8_acceptRanges), ("unicode/utf8.first", laid_unicode_utf8_first)], narrowed := true }
def GearMayUptoSaid : Prop := gearMayUptoRow.holds Tryd.pinned (OpenSpec.upto gearMaySpec)

/-- 'steeplejacklaw07.GearMost', WHERE WHAT IT READS IS OF BULK AT MOST 1048576: true; the input reads as it did. -/
def gearMostUptoRow : OpenClaim := { program := "ytmbjgaeofkikkaadoor", sum := "0c6703bdc3cec9e0f14da560b67f4c1171e5f8ee03ed77b029f2ed30fdf4f766", func := "steeplejack/steeplejacklaw07.GearMost", spec := "gearMost", inPlace := ["internal/bytealg.IndexByteString", "internal/bytealg.IndexString"], unfollowed := true, recurses := true, named := ["internal/bytealg.MaxLen", "unicode/utf8.first", "unicode/utf8.acceptRanges"], apart := false, laid := [("unicode/utf8.acceptRanges", laid_unicode_utf8_acceptRanges), ("unicode/utf8.first", laid_unicode_utf8_first)], narrowed := true }
def GearMostUptoSaid : Prop := gearMostUptoRow.holds Tryd.pinned (OpenSpec.upto gearMostSpec)

/-- 'steeplejacklaw07.GearLess', WHERE WHAT IT READS IS OF BULK AT MOST 1048576: true; the input reads as it did. -/
def gearLessUptoRow : OpenClaim := { program := "ytmbjgaeofkikkaadoor", sum := "0c6703bdc3cec9e0f14da560b67f4c1171e5f8ee03ed77b029f2ed30fdf4f766", func := "steeplejack/steeplejacklaw07.GearLess", spec := "gearLess", inPlace := ["internal/bytealg.IndexByteString", "internal/bytealg.IndexString"], unfollowed := true, recurses := true, named := ["internal/bytealg.MaxLen", "unicode/utf8.first", "unicode/utf8.acceptRanges"], apart := false, laid := [("unicode/utf8.acceptRanges", laid_unicode_utf8_acceptRanges), ("unicode/utf8.first", laid_unicode_utf8_first)], narrowed := true }
def GearLessUptoSaid : Prop := gearLessUptoRow.holds Tryd.pinned (OpenSpec.upto gearLessSpec)

/-- 'steeplejacklaw07.GearCalls', WHERE WHAT IT READS IS OF BULK AT MOST 1048576: true; the input reads as it did. -/
def gearCallsUptoRow : OpenClaim := { program := "ytmbjgaeofkikkaadoor", sum := "0c6703bdc3cec9e0f14da560b67f4c1171e5f8ee03ed77b029f2ed30fdf4f766", func := "steeplejack/steeplejacklaw07.GearCalls", spec := "gearCalls", inPlace := ["internal/bytealg.IndexByteString", "internal/bytealg.IndexString"], unfollowed := true, recurses := true, named := ["internal/bytealg.MaxLen", "unicode/utf8.first", "unicode/utf8.acceptRanges"], apart := false, laid := [("unicode/utf8.acceptRanges", laid_unicode_utf8_acceptRanges), ("unicode/utf8.first", laid_unicode_utf8_first)], narrowed := true }
def GearCallsUptoSaid : Prop := gearCallsUptoRow.holds Tryd.pinned (OpenSpec.upto gearCallsSpec)

/-- 'steeplejacklaw07.GearChanges', WHERE WHAT IT READS IS OF BULK AT MOST 1048576: true; the input reads as it did. -/
def gearChangesUptoRow : OpenClaim := { program := "ytmbjgaeofkikkaadoor", sum := "0c6703bdc3cec9e0f14da560b67f4c1171e5f8ee03ed77b029f2ed30fdf4f766", func := "steeplejack/steeplejacklaw07.GearChanges", spec := "gearChanges", inPlace := ["internal/bytealg.IndexByteString", "internal/bytealg.IndexString"], unfollowed := true, recurses := true, named := ["internal/bytealg.MaxLen", "unicode/utf8.first", "unicode/utf8.acceptRanges"], apart := false, laid := [("unicode/utf8.acceptRanges", laid_unicode_utf8_acceptRanges), ("unicode/utf8.first", laid_unicode_utf8_first)], narrowed := true }
def GearChangesUptoSaid : Prop := gearChangesUptoRow.holds Tryd.pinned (OpenSpec.upto gearChangesSpec)

end Rows
end Go.Proofs.YtmbjgaeofkikkaaDoor
