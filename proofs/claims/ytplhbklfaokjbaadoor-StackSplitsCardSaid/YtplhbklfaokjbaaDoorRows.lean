/-
  NARROWER THAN 'FOR EVERY INPUT', by the rows' own cells (each row's printed sentence says how): StackSums: laid · StackArms: laid · StackOpens: laid · StackSafe: laid · StackWinds: laid · StackMakes: laid · StackMoves: laid · StackTurns: laid · StackParts: laid · StackHolds: laid · StackSplits: laid.
  DERIVED. THE GIVEN ROWS OF THIS SEAT. 11 by the template 'for every input the law returns true; each argument reads behind the call as it read before'; 0 by the template 'total and deterministic' (their statements: YtplhbklfaokjbaaDoorTotals.lean).
  GIVEN WITH THE SEED: the statements are not yours to turn. If you find one false, say at which input.
  Laid BY PROGRAM, IN A SANDBOX (cutbox-rows.mjs): the forced cells as the released guide's own fill.sh prints them over the translation 72a49fa15e23fbd3… (all of the seat's roots in one cut). By AI agents, Wed Nov 11 2026. No macro, syntax, notation, axiom, sorry.
-/
import Derived.Test.YtplhbklfaokjbaaDoorChecked
import GoSem.Claim
import GoSem.ClaimJoined
import GoSem.ClaimMapViews
import Derived.JoinedTies
import Derived.KernelRfl
namespace Go.Proofs.YtplhbklfaokjbaaDoor
/- THE CELL 'sum', in the pinned program and in every row, IS THE sha256 OF THE DUMP (.gsa) THAT YtplhbklfaokjbaaDoorProg.lean LOADS. Nothing in Lean hashes anything: it is a label: what it is worth is what the hold of that sum in a sandbox is worth. -/
noncomputable def Tryd.pinned : Pinned := { name := "ytplhbklfaokjbaadoor", sum := "72a49fa15e23fbd3c15b6b1d75a072a2d3d9a4126c19e6ccbb3eed7e44a345cf", checked := Tryd.checked }
namespace Rows
def none {H : Type} : Left H := { results := [], args := [] }

/- WHAT THE LISTED PACKAGE-LEVEL VARIABLES READ AS WHEN THE CALL BEGINS. Each datum BY PROGRAM (the guide's laid-datum.mjs) off the statement by which the dump's own 'gosem.cut.vars' lays the variable. In a bare row this is a premise. The card (YtplhbklfaokjbaaDoorCards.lean) ties it to the program's text. -/
def laid_steeplejack_stack_away {H : Type} : DataW H := .agg [.agg [.lit (.int .i64 (-1)), .lit (.int .i64 0)], .agg [.lit (.int .i64 0), .lit (.int .i64 (-1))], .agg [.lit (.int .i64 1), .lit (.int .i64 0)], .agg [.lit (.int .i64 0), .lit (.int .i64 1)]]

/-- 'steeplejacklaw02.StackSums': WHATEVER THE INPUT: true; the input reads as it did. -/
def stackSumsSpec : ChangeSpec := { name := "stackSums", fn := fun _ => fun
  | [d1, d2] => { results := [.lit (.bool true)], args := [d1, d2] }
  | _ => none }
def stackSumsRow : OpenClaim := { program := "ytplhbklfaokjbaadoor", sum := "72a49fa15e23fbd3c15b6b1d75a072a2d3d9a4126c19e6ccbb3eed7e44a345cf", func := "steeplejack/steeplejacklaw02.StackSums", spec := "stackSums", unfollowed := true, recurses := true, named := ["steeplejack/stack.away"], apart := false, laid := [("steeplejack/stack.away", laid_steeplejack_stack_away)] }
def StackSumsSaid : Prop := stackSumsRow.holds Tryd.pinned (OpenSpec.ofChange stackSumsSpec)

/-- ITS FALSE NEIGHBOUR: 'it returns false'. Refute it at one input. -/
def stackSumsWrong : ChangeSpec := { name := "stackSums", fn := fun _ => fun
  | [d1, d2] => { results := [.lit (.bool false)], args := [d1, d2] }
  | _ => none }
def StackSumsWrongFalsely : Prop := stackSumsRow.holds Tryd.pinned (OpenSpec.ofChange stackSumsWrong)

/-- 'steeplejacklaw02.StackArms': WHATEVER THE INPUT: true; the input reads as it did. -/
def stackArmsSpec : ChangeSpec := { name := "stackArms", fn := fun _ => fun
  | [d1, d2] => { results := [.lit (.bool true)], args := [d1, d2] }
  | _ => none }
def stackArmsRow : OpenClaim := { program := "ytplhbklfaokjbaadoor", sum := "72a49fa15e23fbd3c15b6b1d75a072a2d3d9a4126c19e6ccbb3eed7e44a345cf", func := "steeplejack/steeplejacklaw02.StackArms", spec := "stackArms", inPlace := ["math/bits.Add64"], unfollowed := true, recurses := true, named := ["steeplejack/stack.away"], apart := false, laid := [("steeplejack/stack.away", laid_steeplejack_stack_away)] }
def StackArmsSaid : Prop := stackArmsRow.holds Tryd.pinned (OpenSpec.ofChange stackArmsSpec)

/-- ITS FALSE NEIGHBOUR: 'it returns false'. Refute it at one input. -/
def stackArmsWrong : ChangeSpec := { name := "stackArms", fn := fun _ => fun
  | [d1, d2] => { results := [.lit (.bool false)], args := [d1, d2] }
  | _ => none }
def StackArmsWrongFalsely : Prop := stackArmsRow.holds Tryd.pinned (OpenSpec.ofChange stackArmsWrong)

/-- 'steeplejacklaw02.StackOpens': WHATEVER THE INPUT: true; the input reads as it did. -/
def stackOpensSpec : ChangeSpec := { name := "stackOpens", fn := fun _ => fun
  | [d1, d2, d3] => { results := [.lit (.bool true)], args := [d1, d2, d3] }
  | _ => none }
def stackOpensRow : OpenClaim := { program := "ytplhbklfaokjbaadoor", sum := "72a49fa15e23fbd3c15b6b1d75a072a2d3d9a4126c19e6ccbb3eed7e44a345cf", func := "steeplejack/steeplejacklaw02.StackOpens", spec := "stackOpens", inPlace := ["math/bits.Add64"], unfollowed := true, recurses := true, named := ["steeplejack/stack.away"], apart := false, laid := [("steeplejack/stack.away", laid_steeplejack_stack_away)] }
def StackOpensSaid : Prop := stackOpensRow.holds Tryd.pinned (OpenSpec.ofChange stackOpensSpec)

/-- ITS FALSE NEIGHBOUR: 'it returns false'. Refute it at one input. -/
def stackOpensWrong : ChangeSpec := { name := "stackOpens", fn := fun _ => fun
  | [d1, d2, d3] => { results := [.lit (.bool false)], args := [d1, d2, d3] }
  | _ => none }
def StackOpensWrongFalsely : Prop := stackOpensRow.holds Tryd.pinned (OpenSpec.ofChange stackOpensWrong)

/-- 'steeplejacklaw02.StackSafe': WHATEVER THE INPUT: true; the input reads as it did. -/
def stackSafeSpec : ChangeSpec := { name := "stackSafe", fn := fun _ => fun
  | [d1, d2] => { results := [.lit (.bool true)], args := [d1, d2] }
  | _ => none }
def stackSafeRow : OpenClaim := { program := "ytplhbklfaokjbaadoor", sum := "72a49fa15e23fbd3c15b6b1d75a072a2d3d9a4126c19e6ccbb3eed7e44a345cf", func := "steeplejack/steeplejacklaw02.StackSafe", spec := "stackSafe", inPlace := ["math/bits.Add64"], unfollowed := true, recurses := true, named := ["steeplejack/stack.away"], apart := false, laid := [("steeplejack/stack.away", laid_steeplejack_stack_away)] }
def StackSafeSaid : Prop := stackSafeRow.holds Tryd.pinned (OpenSpec.ofChange stackSafeSpec)

/-- ITS FALSE NEIGHBOUR: 'it returns false'. Refute it at one input. -/
def stackSafeWrong : ChangeSpec := { name := "stackSafe", fn := fun _ => fun
  | [d1, d2] => { results := [.lit (.bool false)], args := [d1, d2] }
  | _ => none }
def StackSafeWrongFalsely : Prop := stackSafeRow.holds Tryd.pinned (OpenSpec.ofChange stackSafeWrong)

/-- 'steeplejacklaw02.StackWinds': WHATEVER THE INPUT: true; the input reads as it did. -/
def stackWindsSpec : ChangeSpec := { name := "stackWinds", fn := fun _ => fun
  | [d1, d2, d3] => { results := [.lit (.bool true)], args := [d1, d2, d3] }
  | _ => none }
def stackWindsRow : OpenClaim := { program := "ytplhbklfaokjbaadoor", sum := "72a49fa15e23fbd3c15b6b1d75a072a2d3d9a4126c19e6ccbb3eed7e44a345cf", func := "steeplejack/steeplejacklaw02.StackWinds", spec := "stackWinds", unfollowed := true, recurses := true, named := ["steeplejack/stack.away"], apart := false, laid := [("steeplejack/stack.away", laid_steeplejack_stack_away)] }
def StackWindsSaid : Prop := stackWindsRow.holds Tryd.pinned (OpenSpec.ofChange stackWindsSpec)

/-- ITS FALSE NEIGHBOUR: 'it returns false'. Refute it at one input. -/
def stackWindsWrong : ChangeSpec := { name := "stackWinds", fn := fun _ => fun
  | [d1, d2, d3] => { results := [.lit (.bool false)], args := [d1, d2, d3] }
  | _ => none }
def StackWindsWrongFalsely : Prop := stackWindsRow.holds Tryd.pinned (OpenSpec.ofChange stackWindsWrong)

/-- 'steeplejacklaw02.StackMakes': WHATEVER THE INPUT: true; the input reads as it did. -/
def stackMakesSpec : ChangeSpec := { name := "stackMakes", fn := fun _ => fun
  | [d1, d2, d3] => { results := [.lit (.bool true)], args := [d1, d2, d3] }
  | _ => none }
def stackMakesRow : OpenClaim := { program := "ytplhbklfaokjbaadoor", sum := "72a49fa15e23fbd3c15b6b1d75a072a2d3d9a4126c19e6ccbb3eed7e44a345cf", func := "steeplejack/steeplejacklaw02.StackMakes", spec := "stackMakes", unfollowed := true, recurses := true, named := ["steeplejack/stack.away"], apart := false, laid := [("steeplejack/stack.away", laid_steeplejack_stack_away)] }
def StackMakesSaid : Prop := stackMakesRow.holds Tryd.pinned (OpenSpec.ofChange stackMakesSpec)

/-- ITS FALSE NEIGHBOUR: 'it returns false'. Refute it at one input. -/
def stackMakesWrong : ChangeSpec := { name := "stackMakes", fn := fun _ => fun
  | [d1, d2, d3] => { results := [.lit (.bool false)], args := [d1, d2, d3] }
  | _ => none }
def StackMakesWrongFalsely : Prop := stackMakesRow.holds Tryd.pinned (OpenSpec.ofChange stackMakesWrong)

/-- 'steeplejacklaw02.StackMoves': WHATEVER THE INPUT: true; the input reads as it did. -/
def stackMovesSpec : ChangeSpec := { name := "stackMoves", fn := fun _ => fun
  | [d1, d2] => { results := [.lit (.bool true)], args := [d1, d2] }
  | _ => none }
def stackMovesRow : OpenClaim := { program := "ytplhbklfaokjbaadoor", sum := "72a49fa15e23fbd3c15b6b1d75a072a2d3d9a4126c19e6ccbb3eed7e44a345cf", func := "steeplejack/steeplejacklaw02.StackMoves", spec := "stackMoves", unfollowed := true, recurses := true, named := ["steeplejack/stack.away"], apart := false, laid := [("steeplejack/stack.away", laid_steeplejack_stack_away)] }
def StackMovesSaid : Prop := stackMovesRow.holds Tryd.pinned (OpenSpec.ofChange stackMovesSpec)

/-- ITS FALSE NEIGHBOUR: 'it returns false'. Refute it at one input. -/
def stackMovesWrong : ChangeSpec := { name := "stackMoves", fn := fun _ => fun
  | [d1, d2] => { results := [.lit (.bool false)], args := [d1, d2] }
  | _ => none }
def StackMovesWrongFalsely : Prop := stackMovesRow.holds Tryd.pinned (OpenSpec.ofChange stackMovesWrong)

/-- 'steeplejacklaw02.StackTurns': WHATEVER THE INPUT: true; the input reads as it did. -/
def stackTurnsSpec : ChangeSpec := { name := "stackTurns", fn := fun _ => fun
  | [d1, d2, d3] => { results := [.lit (.bool true)], args := [d1, d2, d3] }
  | _ => none }
def stackTurnsRow : OpenClaim := { program := "ytplhbklfaokjbaadoor", sum := "72a49fa15e23fbd3c15b6b1d75a072a2d3d9a4126c19e6ccbb3eed7e44a345cf", func := "steeplejack/steeplejacklaw02.StackTurns", spec := "stackTurns", unfollowed := true, recurses := true, named := ["steeplejack/stack.away"], apart := false, laid := [("steeplejack/stack.away", laid_steeplejack_stack_away)] }
def StackTurnsSaid : Prop := stackTurnsRow.holds Tryd.pinned (OpenSpec.ofChange stackTurnsSpec)

/-- ITS FALSE NEIGHBOUR: 'it returns false'. Refute it at one input. -/
def stackTurnsWrong : ChangeSpec := { name := "stackTurns", fn := fun _ => fun
  | [d1, d2, d3] => { results := [.lit (.bool false)], args := [d1, d2, d3] }
  | _ => none }
def StackTurnsWrongFalsely : Prop := stackTurnsRow.holds Tryd.pinned (OpenSpec.ofChange stackTurnsWrong)

/-- 'steeplejacklaw02.StackParts': WHATEVER THE INPUT: true; the input reads as it did. -/
def stackPartsSpec : ChangeSpec := { name := "stackParts", fn := fun _ => fun
  | [d1, d2, d3] => { results := [.lit (.bool true)], args := [d1, d2, d3] }
  | _ => none }
def stackPartsRow : OpenClaim := { program := "ytplhbklfaokjbaadoor", sum := "72a49fa15e23fbd3c15b6b1d75a072a2d3d9a4126c19e6ccbb3eed7e44a345cf", func := "steeplejack/steeplejacklaw02.StackParts", spec := "stackParts", unfollowed := true, recurses := true, named := ["steeplejack/stack.away"], apart := false, laid := [("steeplejack/stack.away", laid_steeplejack_stack_away)] }
def StackPartsSaid : Prop := stackPartsRow.holds Tryd.pinned (OpenSpec.ofChange stackPartsSpec)

/-- ITS FALSE NEIGHBOUR: 'it returns false'. Refute it at one input. -/
def stackPartsWrong : ChangeSpec := { name := "stackParts", fn := fun _ => fun
  | [d1, d2, d3] => { results := [.lit (.bool false)], args := [d1, d2, d3] }
  | _ => none }
def StackPartsWrongFalsely : Prop := stackPartsRow.holds Tryd.pinned (OpenSpec.ofChange stackPartsWrong)

/-- 'steeplejacklaw02.StackHolds': WHATEVER THE INPUT: true; the input reads as it did. -/
def stackHoldsSpec : ChangeSpec := { name := "stackHolds", fn := fun _ => fun
  | [d1, d2] => { results := [.lit (.bool true)], args := [d1, d2] }
  | _ => none }
def stackHoldsRow : OpenClaim := { program := "ytplhbklfaokjbaadoor", sum := "72a49fa15e23fbd3c15b6b1d75a072a2d3d9a4126c19e6ccbb3eed7e44a345cf", func := "steeplejack/steeplejacklaw02.StackHolds", spec := "stackHolds", unfollowed := true, recurses := true, named := ["steeplejack/stack.away"], apart := false, laid := [("steeplejack/stack.away", laid_steeplejack_stack_away)] }
def StackHoldsSaid : Prop := stackHoldsRow.holds Tryd.pinned (OpenSpec.ofChange stackHoldsSpec)

/-- ITS FALSE NEIGHBOUR: 'it returns false'. Refute it at one input. -/
def stackHoldsWrong : ChangeSpec := { name := "stackHolds", fn := fun _ => fun
  | [d1, d2] => { results := [.lit (.bool false)], args := [d1, d2] }
  | _ => none }
def StackHoldsWrongFalsely : Prop := stackHoldsRow.holds Tryd.pinned (OpenSpec.ofChange stackHoldsWrong)

/-- 'steeplejacklaw02.StackSplits': WHATEVER THE INPUT: true; the input reads as it did. -/
def stackSplitsSpec : ChangeSpec := { name := "stackSplits", fn := fun _ => fun
  | [d1, d2] => { results := [.lit (.bool true)], args := [d1, d2] }
  | _ => none }
def stackSplitsRow : OpenClaim := { program := "ytplhbklfaokjbaadoor", sum := "72a49fa15e23fbd3c15b6b1d75a072a2d3d9a4126c19e6ccbb3eed7e44a345cf", func := "steeplejack/steeplejacklaw02.StackSplits", spec := "stackSplits", unfollowed := true, recurses := true, named := ["steeplejack/stack.away"], apart := false, laid := [("steeplejack/stack.away", laid_steeplejack_stack_away)] }
def StackSplitsSaid : Prop := stackSplitsRow.holds Tryd.pinned (OpenSpec.ofChange stackSplitsSpec)

/-- ITS FALSE NEIGHBOUR: 'it returns false'. Refute it at one input. -/
def stackSplitsWrong : ChangeSpec := { name := "stackSplits", fn := fun _ => fun
  | [d1, d2] => { results := [.lit (.bool false)], args := [d1, d2] }
  | _ => none }
def StackSplitsWrongFalsely : Prop := stackSplitsRow.holds Tryd.pinned (OpenSpec.ofChange stackSplitsWrong)

/- THE SECOND FORM. 'bulk': how many values and letters a reading holds, each counted each time it is reached (what is shared counts as often as it is met; a slice's spare places count too). A statement '..UptoSaid' is the law's where the arguments, and the package variables that the reading takes, are together of bulk at most 1048576: NARROWER than '..Said'. Prove '..Said' where nothing that the law and all that it calls make is longer than what came in: it says more and counts as full. Else prove '..UptoSaid'. A law counts once. -/
mutual
def uptoBulk {H : Type} : DataW H → Nat
  | .lit (.string bytes) => bytes.length + 1
  | .lit _ => 1
  | .nil => 1
  | .ptr d => uptoBulk d + 1
  | .slice elems spare => uptoBulkAll elems + uptoBulkAll spare + 1
  | .agg parts => uptoBulkAll parts + 1
  | .iface _ d => uptoBulk d + 1
  | .map entries => uptoBulkEntries entries + 1
  | .held _ => 1
def uptoBulkAll {H : Type} : List (DataW H) → Nat
  | [] => 0
  | d :: r => uptoBulk d + uptoBulkAll r
def uptoBulkEntries {H : Type} : List (Lit × DataW H) → Nat
  | [] => 0
  | x :: r => uptoBulkEntry x + uptoBulkEntries r
def uptoBulkEntry {H : Type} : Lit × DataW H → Nat
  | (.string bytes, d) => bytes.length + uptoBulk d + 1
  | (_, d) => uptoBulk d + 1
 end
def uptoSmall : (H : Type) → List (DataW H) → Bool := fun _ ds => decide (uptoBulkAll ds ≤ 1048576)
def OpenSpec.upto (s : _root_.Go.ChangeSpec) : _root_.Go.OpenSpec := { _root_.Go.OpenSpec.ofChange s with cond := some uptoSmall }

/-- 'steeplejacklaw02.StackSums', WHERE WHAT IT READS IS OF BULK AT MOST 1048576: true; the input reads as it did. -/
def stackSumsUptoRow : OpenClaim := { program := "ytplhbklfaokjbaadoor", sum := "72a49fa15e23fbd3c15b6b1d75a072a2d3d9a4126c19e6ccbb3eed7e44a345cf", func := "steeplejack/steeplejacklaw02.StackSums", spec := "stackSums", unfollowed := true, recurses := true, named := ["steeplejack/stack.away"], apart := false, laid := [("steeplejack/stack.away", laid_steeplejack_stack_away)], narrowed := true }
def StackSumsUptoSaid : Prop := stackSumsUptoRow.holds Tryd.pinned (OpenSpec.upto stackSumsSpec)

/-- 'steeplejacklaw02.StackArms', WHERE WHAT IT READS IS OF BULK AT MOST 1048576: true; the input reads as it did. -/
def stackArmsUptoRow : OpenClaim := { program := "ytplhbklfaokjbaadoor", sum := "72a49fa15e23fbd3c15b6b1d75a072a2d3d9a4126c19e6ccbb3eed7e44a345cf", func := "steeplejack/steeplejacklaw02.StackArms", spec := "stackArms", inPlace := ["math/bits.Add64"], unfollowed := true, recurses := true, named := ["steeplejack/stack.away"], apart := false, laid := [("steeplejack/stack.away", laid_steeplejack_stack_away)], narrowed := true }
def StackArmsUptoSaid : Prop := stackArmsUptoRow.holds Tryd.pinned (OpenSpec.upto stackArmsSpec)

/-- 'steeplejacklaw02.StackOpens', WHERE WHAT IT READS IS OF BULK AT MOST 1048576: true; the input reads as it did. -/
def stackOpensUptoRow : OpenClaim := { program := "ytplhbklfaokjbaadoor", sum := "72a49fa15e23fbd3c15b6b1d75a072a2d3d9a4126c19e6ccbb3eed7e44a345cf", func := "steeplejack/steeplejacklaw02.StackOpens", spec := "stackOpens", inPlace := ["math/bits.Add64"], unfollowed := true, recurses := true, named := ["steeplejack/stack.away"], apart := false, laid := [("steeplejack/stack.away", laid_steeplejack_stack_away)], narrowed := true }
def StackOpensUptoSaid : Prop := stackOpensUptoRow.holds Tryd.pinned (OpenSpec.upto stackOpensSpec)

/-- 'steeplejacklaw02.StackSafe', WHERE WHAT IT READS IS OF BULK AT MOST 1048576: true; the input reads as it did. -/
def stackSafeUptoRow : OpenClaim := { program := "ytplhbklfaokjbaadoor", sum := "72a49fa15e23fbd3c15b6b1d75a072a2d3d9a4126c19e6ccbb3eed7e44a345cf", func := "steeplejack/steeplejacklaw02.StackSafe", spec := "stackSafe", inPlace := ["math/bits.Add64"], unfollowed := true, recurses := true, named := ["steeplejack/stack.away"], apart := false, laid := [("steeplejack/stack.away", laid_steeplejack_stack_away)], narrowed := true }
def StackSafeUptoSaid : Prop := stackSafeUptoRow.holds Tryd.pinned (OpenSpec.upto stackSafeSpec)

/-- 'steeplejacklaw02.StackWinds', WHERE WHAT IT READS IS OF BULK AT MOST 1048576: true; the input reads as it did. -/
def stackWindsUptoRow : OpenClaim := { program := "ytplhbklfaokjbaadoor", sum := "72a49fa15e23fbd3c15b6b1d75a072a2d3d9a4126c19e6ccbb3eed7e44a345cf", func := "steeplejack/steeplejacklaw02.StackWinds", spec := "stackWinds", unfollowed := true, recurses := true, named := ["steeplejack/stack.away"], apart := false, laid := [("steeplejack/stack.away", laid_steeplejack_stack_away)], narrowed := true }
def StackWindsUptoSaid : Prop := stackWindsUptoRow.holds Tryd.pinned (OpenSpec.upto stackWindsSpec)

/-- 'steeplejacklaw02.StackMakes', WHERE WHAT IT READS IS OF BULK AT MOST 1048576: true; the input reads as it did. -/
def stackMakesUptoRow : OpenClaim := { program := "ytplhbklfaokjbaadoor", sum := "72a49fa15e23fbd3c15b6b1d75a072a2d3d9a4126c19e6ccbb3eed7e44a345cf", func := "steeplejack/steeplejacklaw02.StackMakes", spec := "stackMakes", unfollowed := true, recurses := true, named := ["steeplejack/stack.away"], apart := false, laid := [("steeplejack/stack.away", laid_steeplejack_stack_away)], narrowed := true }
def StackMakesUptoSaid : Prop := stackMakesUptoRow.holds Tryd.pinned (OpenSpec.upto stackMakesSpec)

/-- 'steeplejacklaw02.StackMoves', WHERE WHAT IT READS IS OF BULK AT MOST 1048576: true; the input reads as it did. -/
def stackMovesUptoRow : OpenClaim := { program := "ytplhbklfaokjbaadoor", sum := "72a49fa15e23fbd3c15b6b1d75a072a2d3d9a4126c19e6ccbb3eed7e44a345cf", func := "steeplejack/steeplejacklaw02.StackMoves", spec := "stackMoves", unfollowed := true, recurses := true, named := ["steeplejack/stack.away"], apart := false, laid := [("steeplejack/stack.away", laid_steeplejack_stack_away)], narrowed := true }
def StackMovesUptoSaid : Prop := stackMovesUptoRow.holds Tryd.pinned (OpenSpec.upto stackMovesSpec)

/-- 'steeplejacklaw02.StackTurns', WHERE WHAT IT READS IS OF BULK AT MOST 1048576: true; the input reads as it did. -/
def stackTurnsUptoRow : OpenClaim := { program := "ytplhbklfaokjbaadoor", sum := "72a49fa15e23fbd3c15b6b1d75a072a2d3d9a4126c19e6ccbb3eed7e44a345cf", func := "steeplejack/steeplejacklaw02.StackTurns", spec := "stackTurns", unfollowed := true, recurses := true, named := ["steeplejack/stack.away"], apart := false, laid := [("steeplejack/stack.away", laid_steeplejack_stack_away)], narrowed := true }
def StackTurnsUptoSaid : Prop := stackTurnsUptoRow.holds Tryd.pinned (OpenSpec.upto stackTurnsSpec)

/-- 'steeplejacklaw02.StackParts', WHERE WHAT IT READS IS OF BULK AT MOST 1048576: true; the input reads as it did. -/
def stackPartsUptoRow : OpenClaim := { program := "ytplhbklfaokjbaadoor", sum := "72a49fa15e23fbd3c15b6b1d75a072a2d3d9a4126c19e6ccbb3eed7e44a345cf", func := "steeplejack/steeplejacklaw02.StackParts", spec := "stackParts", unfollowed := true, recurses := true, named := ["steeplejack/stack.away"], apart := false, laid := [("steeplejack/stack.away", laid_steeplejack_stack_away)], narrowed := true }
def StackPartsUptoSaid : Prop := stackPartsUptoRow.holds Tryd.pinned (OpenSpec.upto stackPartsSpec)

/-- 'steeplejacklaw02.StackHolds', WHERE WHAT IT READS IS OF BULK AT MOST 1048576: true; the input reads as it did. -/
def stackHoldsUptoRow : OpenClaim := { program := "ytplhbklfaokjbaadoor", sum := "72a49fa15e23fbd3c15b6b1d75a072a2d3d9a4126c19e6ccbb3eed7e44a345cf", func := "steeplejack/steeplejacklaw02.StackHolds", spec := "stackHolds", unfollowed := true, recurses := true, named := ["steeplejack/stack.away"], apart := false, laid := [("steeplejack/stack.away", laid_steeplejack_stack_away)], narrowed := true }
def StackHoldsUptoSaid : Prop := stackHoldsUptoRow.holds Tryd.pinned (OpenSpec.upto stackHoldsSpec)

/-- 'steeplejacklaw02.StackSplits', WHERE WHAT IT READS IS OF BULK AT MOST 1048576: true; the input reads as it did. -/
def stackSplitsUptoRow : OpenClaim := { program := "ytplhbklfaokjbaadoor", sum := "72a49fa15e23fbd3c15b6b1d75a072a2d3d9a4126c19e6ccbb3eed7e44a345cf", func := "steeplejack/steeplejacklaw02.StackSplits", spec := "stackSplits", unfollowed := true, recurses := true, named := ["steeplejack/stack.away"], apart := false, laid := [("steeplejack/stack.away", laid_steeplejack_stack_away)], narrowed := true }
def StackSplitsUptoSaid : Prop := stackSplitsUptoRow.holds Tryd.pinned (OpenSpec.upto stackSplitsSpec)

end Rows
end Go.Proofs.YtplhbklfaokjbaaDoor
