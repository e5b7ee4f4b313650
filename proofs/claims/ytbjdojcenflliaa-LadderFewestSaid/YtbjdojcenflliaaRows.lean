/-
  No cell of these rows narrows 'for every input' (looked for: loops, veiled, ifaces, maps, wideKeys, modest, calm, conditions, laid).
  DERIVED. THE GIVEN ROWS OF THIS SEAT. 8 by the template 'for every input the law returns true; each argument reads behind the call as it read before'; 0 by the template 'total and deterministic' (their statements: YtbjdojcenflliaaTotals.lean).
  GIVEN WITH THE SEED: the statements are not yours to turn. If you find one false, say at which input.
  Laid BY PROGRAM, IN A SANDBOX (cutbox-rows.mjs): the forced cells as the released guide's own fill.sh prints them over the translation b73cbc05bdd7d6c6… (all of the seat's roots in one cut). By AI agents, Wed Nov 11 2026. No macro, syntax, notation, axiom, sorry.
-/
import Derived.Test.YtbjdojcenflliaaChecked
import GoSem.Claim
import GoSem.ClaimJoined
import GoSem.ClaimMapViews
import Derived.JoinedTies
import Derived.KernelRfl
namespace Go.Proofs.Ytbjdojcenflliaa
/- THE CELL 'sum', in the pinned program and in every row, IS THE sha256 OF THE DUMP (.gsa) THAT YtbjdojcenflliaaProg.lean LOADS. Nothing in Lean hashes anything: it is a label: what it is worth is what the hold of that sum in a sandbox is worth. -/
noncomputable def Try.pinned : Pinned := { name := "ytbjdojcenflliaa", sum := "b73cbc05bdd7d6c6a01d4eb763652129a4f2474543da1c151366c46599f2f303", checked := Try.checked }
namespace Rows
def none {H : Type} : Left H := { results := [], args := [] }

/-- 'steeplejacklaw03.LadderDogs': WHATEVER THE INPUT: true; the input reads as it did. -/
def ladderDogsSpec : ChangeSpec := { name := "ladderDogs", fn := fun _ => fun
  | [d1, d2, d3] => { results := [.lit (.bool true)], args := [d1, d2, d3] }
  | _ => none }
def ladderDogsRow : OpenClaim := { program := "ytbjdojcenflliaa", sum := "b73cbc05bdd7d6c6a01d4eb763652129a4f2474543da1c151366c46599f2f303", func := "steeplejack/steeplejacklaw03.LadderDogs", spec := "ladderDogs", unfollowed := true, recurses := true, apart := false }
def LadderDogsSaid : Prop := ladderDogsRow.holds Try.pinned (OpenSpec.ofChange ladderDogsSpec)

/-- ITS FALSE NEIGHBOUR: 'it returns false'. Refute it at one input. -/
def ladderDogsWrong : ChangeSpec := { name := "ladderDogs", fn := fun _ => fun
  | [d1, d2, d3] => { results := [.lit (.bool false)], args := [d1, d2, d3] }
  | _ => none }
def LadderDogsWrongFalsely : Prop := ladderDogsRow.holds Try.pinned (OpenSpec.ofChange ladderDogsWrong)

/-- 'steeplejacklaw03.LadderFewest': WHATEVER THE INPUT: true; the input reads as it did. -/
def ladderFewestSpec : ChangeSpec := { name := "ladderFewest", fn := fun _ => fun
  | [d1, d2] => { results := [.lit (.bool true)], args := [d1, d2] }
  | _ => none }
def ladderFewestRow : OpenClaim := { program := "ytbjdojcenflliaa", sum := "b73cbc05bdd7d6c6a01d4eb763652129a4f2474543da1c151366c46599f2f303", func := "steeplejack/steeplejacklaw03.LadderFewest", spec := "ladderFewest", unfollowed := true, recurses := true, apart := false }
def LadderFewestSaid : Prop := ladderFewestRow.holds Try.pinned (OpenSpec.ofChange ladderFewestSpec)

/-- ITS FALSE NEIGHBOUR: 'it returns false'. Refute it at one input. -/
def ladderFewestWrong : ChangeSpec := { name := "ladderFewest", fn := fun _ => fun
  | [d1, d2] => { results := [.lit (.bool false)], args := [d1, d2] }
  | _ => none }
def LadderFewestWrongFalsely : Prop := ladderFewestRow.holds Try.pinned (OpenSpec.ofChange ladderFewestWrong)

/-- 'steeplejacklaw03.LadderLeast': WHATEVER THE INPUT: true; the input reads as it did. -/
def ladderLeastSpec : ChangeSpec := { name := "ladderLeast", fn := fun _ => fun
  | [d1, d2, d3] => { results := [.lit (.bool true)], args := [d1, d2, d3] }
  | _ => none }
def ladderLeastRow : OpenClaim := { program := "ytbjdojcenflliaa", sum := "b73cbc05bdd7d6c6a01d4eb763652129a4f2474543da1c151366c46599f2f303", func := "steeplejack/steeplejacklaw03.LadderLeast", spec := "ladderLeast", unfollowed := true, recurses := true, apart := false }
def LadderLeastSaid : Prop := ladderLeastRow.holds Try.pinned (OpenSpec.ofChange ladderLeastSpec)

/-- ITS FALSE NEIGHBOUR: 'it returns false'. Refute it at one input. -/
def ladderLeastWrong : ChangeSpec := { name := "ladderLeast", fn := fun _ => fun
  | [d1, d2, d3] => { results := [.lit (.bool false)], args := [d1, d2, d3] }
  | _ => none }
def LadderLeastWrongFalsely : Prop := ladderLeastRow.holds Try.pinned (OpenSpec.ofChange ladderLeastWrong)

/-- 'steeplejacklaw03.LadderStuck': WHATEVER THE INPUT: true; the input reads as it did. -/
def ladderStuckSpec : ChangeSpec := { name := "ladderStuck", fn := fun _ => fun
  | [d1, d2, d3] => { results := [.lit (.bool true)], args := [d1, d2, d3] }
  | _ => none }
def ladderStuckRow : OpenClaim := { program := "ytbjdojcenflliaa", sum := "b73cbc05bdd7d6c6a01d4eb763652129a4f2474543da1c151366c46599f2f303", func := "steeplejack/steeplejacklaw03.LadderStuck", spec := "ladderStuck", unfollowed := true, recurses := true, apart := false }
def LadderStuckSaid : Prop := ladderStuckRow.holds Try.pinned (OpenSpec.ofChange ladderStuckSpec)

/-- ITS FALSE NEIGHBOUR: 'it returns false'. Refute it at one input. -/
def ladderStuckWrong : ChangeSpec := { name := "ladderStuck", fn := fun _ => fun
  | [d1, d2, d3] => { results := [.lit (.bool false)], args := [d1, d2, d3] }
  | _ => none }
def LadderStuckWrongFalsely : Prop := ladderStuckRow.holds Try.pinned (OpenSpec.ofChange ladderStuckWrong)

/-- 'steeplejacklaw03.LadderNeeded': WHATEVER THE INPUT: true; the input reads as it did. -/
def ladderNeededSpec : ChangeSpec := { name := "ladderNeeded", fn := fun _ => fun
  | [d1, d2, d3] => { results := [.lit (.bool true)], args := [d1, d2, d3] }
  | _ => none }
def ladderNeededRow : OpenClaim := { program := "ytbjdojcenflliaa", sum := "b73cbc05bdd7d6c6a01d4eb763652129a4f2474543da1c151366c46599f2f303", func := "steeplejack/steeplejacklaw03.LadderNeeded", spec := "ladderNeeded", unfollowed := true, recurses := true, apart := false }
def LadderNeededSaid : Prop := ladderNeededRow.holds Try.pinned (OpenSpec.ofChange ladderNeededSpec)

/-- ITS FALSE NEIGHBOUR: 'it returns false'. Refute it at one input. -/
def ladderNeededWrong : ChangeSpec := { name := "ladderNeeded", fn := fun _ => fun
  | [d1, d2, d3] => { results := [.lit (.bool false)], args := [d1, d2, d3] }
  | _ => none }
def LadderNeededWrongFalsely : Prop := ladderNeededRow.holds Try.pinned (OpenSpec.ofChange ladderNeededWrong)

/-- 'steeplejacklaw03.LadderOn': WHATEVER THE INPUT: true; the input reads as it did. -/
def ladderOnSpec : ChangeSpec := { name := "ladderOn", fn := fun _ => fun
  | [d1, d2, d3] => { results := [.lit (.bool true)], args := [d1, d2, d3] }
  | _ => none }
def ladderOnRow : OpenClaim := { program := "ytbjdojcenflliaa", sum := "b73cbc05bdd7d6c6a01d4eb763652129a4f2474543da1c151366c46599f2f303", func := "steeplejack/steeplejacklaw03.LadderOn", spec := "ladderOn", unfollowed := true, recurses := true, apart := false }
def LadderOnSaid : Prop := ladderOnRow.holds Try.pinned (OpenSpec.ofChange ladderOnSpec)

/-- ITS FALSE NEIGHBOUR: 'it returns false'. Refute it at one input. -/
def ladderOnWrong : ChangeSpec := { name := "ladderOn", fn := fun _ => fun
  | [d1, d2, d3] => { results := [.lit (.bool false)], args := [d1, d2, d3] }
  | _ => none }
def LadderOnWrongFalsely : Prop := ladderOnRow.holds Try.pinned (OpenSpec.ofChange ladderOnWrong)

/-- 'steeplejacklaw03.LadderSets': WHATEVER THE INPUT: true; the input reads as it did. -/
def ladderSetsSpec : ChangeSpec := { name := "ladderSets", fn := fun _ => fun
  | [d1, d2, d3] => { results := [.lit (.bool true)], args := [d1, d2, d3] }
  | _ => none }
def ladderSetsRow : OpenClaim := { program := "ytbjdojcenflliaa", sum := "b73cbc05bdd7d6c6a01d4eb763652129a4f2474543da1c151366c46599f2f303", func := "steeplejack/steeplejacklaw03.LadderSets", spec := "ladderSets", unfollowed := true, recurses := true, apart := false }
def LadderSetsSaid : Prop := ladderSetsRow.holds Try.pinned (OpenSpec.ofChange ladderSetsSpec)

/-- ITS FALSE NEIGHBOUR: 'it returns false'. Refute it at one input. -/
def ladderSetsWrong : ChangeSpec := { name := "ladderSets", fn := fun _ => fun
  | [d1, d2, d3] => { results := [.lit (.bool false)], args := [d1, d2, d3] }
  | _ => none }
def LadderSetsWrongFalsely : Prop := ladderSetsRow.holds Try.pinned (OpenSpec.ofChange ladderSetsWrong)

/-- 'steeplejacklaw03.LadderBears': WHATEVER THE INPUT: true; the input reads as it did. -/
def ladderBearsSpec : ChangeSpec := { name := "ladderBears", fn := fun _ => fun
  | [d1, d2, d3] => { results := [.lit (.bool true)], args := [d1, d2, d3] }
  | _ => none }
def ladderBearsRow : OpenClaim := { program := "ytbjdojcenflliaa", sum := "b73cbc05bdd7d6c6a01d4eb763652129a4f2474543da1c151366c46599f2f303", func := "steeplejack/steeplejacklaw03.LadderBears", spec := "ladderBears", unfollowed := true, recurses := true, apart := false }
def LadderBearsSaid : Prop := ladderBearsRow.holds Try.pinned (OpenSpec.ofChange ladderBearsSpec)

/-- ITS FALSE NEIGHBOUR: 'it returns false'. Refute it at one input. -/
def ladderBearsWrong : ChangeSpec := { name := "ladderBears", fn := fun _ => fun
  | [d1, d2, d3] => { results := [.lit (.bool false)], args := [d1, d2, d3] }
  | _ => none }
def LadderBearsWrongFalsely : Prop := ladderBearsRow.holds Try.pinned (OpenSpec.ofChange ladderBearsWrong)

/- THE SECOND FORM. 'bulk': how many values and letters a reading holds, each counted each time it is reached (what is shared counts as often as it is met; a slice's spare places count too). A statement '..UptoSaid' is the law's where the arguments, and the package variables that the reading takes, are together of bulk at most 1048576: NARROWER than '..Said'. Prove '..Said' where nothing that the law and all that it calls make is longer than what came in: it says more and counts as full. Else prove '..UptoSaid'. A law counts once. -/
mutual
def uptoBulk {H : Type} : DataW H → Nat
  | .lit (.string bytes) => bytes.length + 1
  | .lit _ => 1
  | .nil => 1
  | .ptr d => uptoBulk d + 1
  | .slice elems spare => uptoBulkAll elems + uptoBulkAll spare + 1
  | .agg parts => uptoBulkAll parts + 1
  | .iface _ d => uptoBulk d + 1
  | .map entries => uptoBulkEntries entries + 1
  | .held _ => 1
def uptoBulkAll {H : Type} : List (DataW H) → Nat
  | [] => 0
  | d :: r => uptoBulk d + uptoBulkAll r
def uptoBulkEntries {H : Type} : List (Lit × DataW H) → Nat
  | [] => 0
  | x :: r => uptoBulkEntry x + uptoBulkEntries r
def uptoBulkEntry {H : Type} : Lit × DataW H → Nat
  | (.string bytes, d) => bytes.length + uptoBulk d + 1
  | (_, d) => uptoBulk d + 1
 end
def uptoSmall : (H : Type) → List (DataW H) → Bool := fun _ ds => decide (uptoBulkAll ds ≤ 1048576)
def OpenSpec.upto (s : _root_.Go.ChangeSpec) : _root_.Go.OpenSpec := { _root_.Go.OpenSpec.ofChange s with cond := some uptoSmall }

/-- 'steeplejacklaw03.LadderDogs', WHERE WHAT IT READS IS OF BULK AT MOST 1048576: true; the input reads as it did. -/
def ladderDogsUptoRow : OpenClaim := { program := "ytbjdojcenflliaa", sum := "b73cbc05bdd7d6c6a01d4eb763652129a4f2474543da1c151366c46599f2f303", func := "steeplejack/steeplejacklaw03.LadderDogs", spec := "ladderDogs", unfollowed := true, recurses := true, apart := false, narrowed := true }
def LadderDogsUptoSaid : Prop := ladderDogsUptoRow.holds Try.pinned (OpenSpec.upto ladderDogsSpec)

/-- 'steeplejacklaw03.LadderFewest', WHERE WHAT IT READS IS OF BULK AT MOST 1048576: true; the input reads as it did. -/
def ladderFewestUptoRow : OpenClaim := { program := "ytbjdojcenflliaa", sum := "b73cbc05bdd7d6c6a01d4eb763652129a4f2474543da1c151366c46599f2f303", func := "steeplejack/steeplejacklaw03.LadderFewest", spec := "ladderFewest", unfollowed := true, recurses := true, apart := false, narrowed := true }
def LadderFewestUptoSaid : Prop := ladderFewestUptoRow.holds Try.pinned (OpenSpec.upto ladderFewestSpec)

/-- 'steeplejacklaw03.LadderLeast', WHERE WHAT IT READS IS OF BULK AT MOST 1048576: true; the input reads as it did. -/
def ladderLeastUptoRow : OpenClaim := { program := "ytbjdojcenflliaa", sum := "b73cbc05bdd7d6c6a01d4eb763652129a4f2474543da1c151366c46599f2f303", func := "steeplejack/steeplejacklaw03.LadderLeast", spec := "ladderLeast", unfollowed := true, recurses := true, apart := false, narrowed := true }
def LadderLeastUptoSaid : Prop := ladderLeastUptoRow.holds Try.pinned (OpenSpec.upto ladderLeastSpec)

/-- 'steeplejacklaw03.LadderStuck', WHERE WHAT IT READS IS OF BULK AT MOST 1048576: true; the input reads as it did. -/
def ladderStuckUptoRow : OpenClaim := { program := "ytbjdojcenflliaa", sum := "b73cbc05bdd7d6c6a01d4eb763652129a4f2474543da1c151366c46599f2f303", func := "steeplejack/steeplejacklaw03.LadderStuck", spec := "ladderStuck", unfollowed := true, recurses := true, apart := false, narrowed := true }
def LadderStuckUptoSaid : Prop := ladderStuckUptoRow.holds Try.pinned (OpenSpec.upto ladderStuckSpec)

/-- 'steeplejacklaw03.LadderNeeded', WHERE WHAT IT READS IS OF BULK AT MOST 1048576: true; the input reads as it did. -/
def ladderNeededUptoRow : OpenClaim := { program := "ytbjdojcenflliaa", sum := "b73cbc05bdd7d6c6a01d4eb763652129a4f2474543da1c151366c46599f2f303", func := "steeplejack/steeplejacklaw03.LadderNeeded", spec := "ladderNeeded", unfollowed := true, recurses := true, apart := false, narrowed := true }
def LadderNeededUptoSaid : Prop := ladderNeededUptoRow.holds Try.pinned (OpenSpec.upto ladderNeededSpec)

/-- 'steeplejacklaw03.LadderOn', WHERE WHAT IT READS IS OF BULK AT MOST 1048576: true; the input reads as it did. -/
def ladderOnUptoRow : OpenClaim := { program := "ytbjdojcenflliaa", sum := "b73cbc05bdd7d6c6a01d4eb763652129a4f2474543da1c151366c46599f2f303", func := "steeplejack/steeplejacklaw03.LadderOn", spec := "ladderOn", unfollowed := true, recurses := true, apart := false, narrowed := true }
def LadderOnUptoSaid : Prop := ladderOnUptoRow.holds Try.pinned (OpenSpec.upto ladderOnSpec)

/-- 'steeplejacklaw03.LadderSets', WHERE WHAT IT READS IS OF BULK AT MOST 1048576: true; the input reads as it did. -/
def ladderSetsUptoRow : OpenClaim := { program := "ytbjdojcenflliaa", sum := "b73cbc05bdd7d6c6a01d4eb763652129a4f2474543da1c151366c46599f2f303", func := "steeplejack/steeplejacklaw03.LadderSets", spec := "ladderSets", unfollowed := true, recurses := true, apart := false, narrowed := true }
def LadderSetsUptoSaid : Prop := ladderSetsUptoRow.holds Try.pinned (OpenSpec.upto ladderSetsSpec)

/-- 'steeplejacklaw03.LadderBears', WHERE WHAT IT READS IS OF BULK AT MOST 1048576: true; the input reads as it did. -/
def ladderBearsUptoRow : OpenClaim := { program := "ytbjdojcenflliaa", sum := "b73cbc05bdd7d6c6a01d4eb763652129a4f2474543da1c151366c46599f2f303", func := "steeplejack/steeplejacklaw03.LadderBears", spec := "ladderBears", unfollowed := true, recurses := true, apart := false, narrowed := true }
def LadderBearsUptoSaid : Prop := ladderBearsUptoRow.holds Try.pinned (OpenSpec.upto ladderBearsSpec)

end Rows
end Go.Proofs.Ytbjdojcenflliaa
