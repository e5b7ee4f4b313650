/-
  No cell of these rows narrows 'for every input' (looked for: loops, veiled, ifaces, maps, wideKeys, modest, calm, conditions, laid).
  DERIVED. THE GIVEN ROWS OF THIS SEAT. 12 by the template 'for every input the law returns true; each argument reads behind the call as it read before'; 0 by the template 'total and deterministic' (their statements: YtnhkkboddoiinaaTotals.lean).
  GIVEN WITH THE SEED: the statements are not yours to turn. If you find one false, say at which input.
  Laid BY PROGRAM, IN A SANDBOX (cutbox-rows.mjs): the forced cells as the released guide's own fill.sh prints them over the translation e53eb6e95b5553ff… (all of the seat's roots in one cut). By AI agents, Wed Nov 11 2026. No macro, syntax, notation, axiom, sorry.
-/
import Derived.Test.YtnhkkboddoiinaaChecked
import GoSem.Claim
import GoSem.ClaimJoined
import GoSem.ClaimMapViews
import Derived.JoinedTies
import Derived.KernelRfl
namespace Go.Proofs.Ytnhkkboddoiinaa
/- THE CELL 'sum', in the pinned program and in every row, IS THE sha256 OF THE DUMP (.gsa) THAT YtnhkkboddoiinaaProg.lean LOADS. Nothing in Lean hashes anything: it is a label: what it is worth is what the hold of that sum in a sandbox is worth. -/
noncomputable def Try.pinned : Pinned := { name := "ytnhkkboddoiinaa", sum := "e53eb6e95b5553ffb400c60a23f13758c732c8b5ea71ddb99a5ad4e523371775", checked := Try.checked }
namespace Rows
def none {H : Type} : Left H := { results := [], args := [] }

/-- 'steeplejacklaw04.RopeTackles': WHATEVER THE INPUT: true; the input reads as it did. -/
def ropeTacklesSpec : ChangeSpec := { name := "ropeTackles", fn := fun _ => fun
  | [d1, d2] => { results := [.lit (.bool true)], args := [d1, d2] }
  | _ => none }
def ropeTacklesRow : OpenClaim := { program := "ytnhkkboddoiinaa", sum := "e53eb6e95b5553ffb400c60a23f13758c732c8b5ea71ddb99a5ad4e523371775", func := "steeplejack/steeplejacklaw04.RopeTackles", spec := "ropeTackles", unfollowed := true, recurses := true, apart := false }
def RopeTacklesSaid : Prop := ropeTacklesRow.holds Try.pinned (OpenSpec.ofChange ropeTacklesSpec)

/-- ITS FALSE NEIGHBOUR: 'it returns false'. Refute it at one input. -/
def ropeTacklesWrong : ChangeSpec := { name := "ropeTackles", fn := fun _ => fun
  | [d1, d2] => { results := [.lit (.bool false)], args := [d1, d2] }
  | _ => none }
def RopeTacklesWrongFalsely : Prop := ropeTacklesRow.holds Try.pinned (OpenSpec.ofChange ropeTacklesWrong)

/-- 'steeplejacklaw04.RopeParts': WHATEVER THE INPUT: true; the input reads as it did. -/
def ropePartsSpec : ChangeSpec := { name := "ropeParts", fn := fun _ => fun
  | [d1, d2, d3] => { results := [.lit (.bool true)], args := [d1, d2, d3] }
  | _ => none }
def ropePartsRow : OpenClaim := { program := "ytnhkkboddoiinaa", sum := "e53eb6e95b5553ffb400c60a23f13758c732c8b5ea71ddb99a5ad4e523371775", func := "steeplejack/steeplejacklaw04.RopeParts", spec := "ropeParts", unfollowed := true, recurses := true, apart := false }
def RopePartsSaid : Prop := ropePartsRow.holds Try.pinned (OpenSpec.ofChange ropePartsSpec)

/-- ITS FALSE NEIGHBOUR: 'it returns false'. Refute it at one input. -/
def ropePartsWrong : ChangeSpec := { name := "ropeParts", fn := fun _ => fun
  | [d1, d2, d3] => { results := [.lit (.bool false)], args := [d1, d2, d3] }
  | _ => none }
def RopePartsWrongFalsely : Prop := ropePartsRow.holds Try.pinned (OpenSpec.ofChange ropePartsWrong)

/-- 'steeplejacklaw04.RopeGains': WHATEVER THE INPUT: true; the input reads as it did. -/
def ropeGainsSpec : ChangeSpec := { name := "ropeGains", fn := fun _ => fun
  | [d1, d2, d3] => { results := [.lit (.bool true)], args := [d1, d2, d3] }
  | _ => none }
def ropeGainsRow : OpenClaim := { program := "ytnhkkboddoiinaa", sum := "e53eb6e95b5553ffb400c60a23f13758c732c8b5ea71ddb99a5ad4e523371775", func := "steeplejack/steeplejacklaw04.RopeGains", spec := "ropeGains", unfollowed := true, recurses := true, apart := false }
def RopeGainsSaid : Prop := ropeGainsRow.holds Try.pinned (OpenSpec.ofChange ropeGainsSpec)

/-- ITS FALSE NEIGHBOUR: 'it returns false'. Refute it at one input. -/
def ropeGainsWrong : ChangeSpec := { name := "ropeGains", fn := fun _ => fun
  | [d1, d2, d3] => { results := [.lit (.bool false)], args := [d1, d2, d3] }
  | _ => none }
def RopeGainsWrongFalsely : Prop := ropeGainsRow.holds Try.pinned (OpenSpec.ofChange ropeGainsWrong)

/-- 'steeplejacklaw04.RopeShares': WHATEVER THE INPUT: true; the input reads as it did. -/
def ropeSharesSpec : ChangeSpec := { name := "ropeShares", fn := fun _ => fun
  | [d1, d2] => { results := [.lit (.bool true)], args := [d1, d2] }
  | _ => none }
def ropeSharesRow : OpenClaim := { program := "ytnhkkboddoiinaa", sum := "e53eb6e95b5553ffb400c60a23f13758c732c8b5ea71ddb99a5ad4e523371775", func := "steeplejack/steeplejacklaw04.RopeShares", spec := "ropeShares", unfollowed := true, recurses := true, apart := false }
def RopeSharesSaid : Prop := ropeSharesRow.holds Try.pinned (OpenSpec.ofChange ropeSharesSpec)

/-- ITS FALSE NEIGHBOUR: 'it returns false'. Refute it at one input. -/
def ropeSharesWrong : ChangeSpec := { name := "ropeShares", fn := fun _ => fun
  | [d1, d2] => { results := [.lit (.bool false)], args := [d1, d2] }
  | _ => none }
def RopeSharesWrongFalsely : Prop := ropeSharesRow.holds Try.pinned (OpenSpec.ofChange ropeSharesWrong)

/-- 'steeplejacklaw04.RopeWalks': WHATEVER THE INPUT: true; the input reads as it did. -/
def ropeWalksSpec : ChangeSpec := { name := "ropeWalks", fn := fun _ => fun
  | [d1, d2, d3] => { results := [.lit (.bool true)], args := [d1, d2, d3] }
  | _ => none }
def ropeWalksRow : OpenClaim := { program := "ytnhkkboddoiinaa", sum := "e53eb6e95b5553ffb400c60a23f13758c732c8b5ea71ddb99a5ad4e523371775", func := "steeplejack/steeplejacklaw04.RopeWalks", spec := "ropeWalks", unfollowed := true, recurses := true, apart := false }
def RopeWalksSaid : Prop := ropeWalksRow.holds Try.pinned (OpenSpec.ofChange ropeWalksSpec)

/-- ITS FALSE NEIGHBOUR: 'it returns false'. Refute it at one input. -/
def ropeWalksWrong : ChangeSpec := { name := "ropeWalks", fn := fun _ => fun
  | [d1, d2, d3] => { results := [.lit (.bool false)], args := [d1, d2, d3] }
  | _ => none }
def RopeWalksWrongFalsely : Prop := ropeWalksRow.holds Try.pinned (OpenSpec.ofChange ropeWalksWrong)

/-- 'steeplejacklaw04.RopeStands': WHATEVER THE INPUT: true; the input reads as it did. -/
def ropeStandsSpec : ChangeSpec := { name := "ropeStands", fn := fun _ => fun
  | [d1, d2] => { results := [.lit (.bool true)], args := [d1, d2] }
  | _ => none }
def ropeStandsRow : OpenClaim := { program := "ytnhkkboddoiinaa", sum := "e53eb6e95b5553ffb400c60a23f13758c732c8b5ea71ddb99a5ad4e523371775", func := "steeplejack/steeplejacklaw04.RopeStands", spec := "ropeStands", unfollowed := true, recurses := true, apart := false }
def RopeStandsSaid : Prop := ropeStandsRow.holds Try.pinned (OpenSpec.ofChange ropeStandsSpec)

/-- ITS FALSE NEIGHBOUR: 'it returns false'. Refute it at one input. -/
def ropeStandsWrong : ChangeSpec := { name := "ropeStands", fn := fun _ => fun
  | [d1, d2] => { results := [.lit (.bool false)], args := [d1, d2] }
  | _ => none }
def RopeStandsWrongFalsely : Prop := ropeStandsRow.holds Try.pinned (OpenSpec.ofChange ropeStandsWrong)

/-- 'steeplejacklaw04.RopeLevers': WHATEVER THE INPUT: true; the input reads as it did. -/
def ropeLeversSpec : ChangeSpec := { name := "ropeLevers", fn := fun _ => fun
  | [d1, d2, d3] => { results := [.lit (.bool true)], args := [d1, d2, d3] }
  | _ => none }
def ropeLeversRow : OpenClaim := { program := "ytnhkkboddoiinaa", sum := "e53eb6e95b5553ffb400c60a23f13758c732c8b5ea71ddb99a5ad4e523371775", func := "steeplejack/steeplejacklaw04.RopeLevers", spec := "ropeLevers", unfollowed := true, recurses := true, apart := false }
def RopeLeversSaid : Prop := ropeLeversRow.holds Try.pinned (OpenSpec.ofChange ropeLeversSpec)

/-- ITS FALSE NEIGHBOUR: 'it returns false'. Refute it at one input. -/
def ropeLeversWrong : ChangeSpec := { name := "ropeLevers", fn := fun _ => fun
  | [d1, d2, d3] => { results := [.lit (.bool false)], args := [d1, d2, d3] }
  | _ => none }
def RopeLeversWrongFalsely : Prop := ropeLeversRow.holds Try.pinned (OpenSpec.ofChange ropeLeversWrong)

/-- 'steeplejacklaw04.RopeLeft': WHATEVER THE INPUT: true; the input reads as it did. -/
def ropeLeftSpec : ChangeSpec := { name := "ropeLeft", fn := fun _ => fun
  | [d1, d2, d3] => { results := [.lit (.bool true)], args := [d1, d2, d3] }
  | _ => none }
def ropeLeftRow : OpenClaim := { program := "ytnhkkboddoiinaa", sum := "e53eb6e95b5553ffb400c60a23f13758c732c8b5ea71ddb99a5ad4e523371775", func := "steeplejack/steeplejacklaw04.RopeLeft", spec := "ropeLeft", unfollowed := true, recurses := true, apart := false }
def RopeLeftSaid : Prop := ropeLeftRow.holds Try.pinned (OpenSpec.ofChange ropeLeftSpec)

/-- ITS FALSE NEIGHBOUR: 'it returns false'. Refute it at one input. -/
def ropeLeftWrong : ChangeSpec := { name := "ropeLeft", fn := fun _ => fun
  | [d1, d2, d3] => { results := [.lit (.bool false)], args := [d1, d2, d3] }
  | _ => none }
def RopeLeftWrongFalsely : Prop := ropeLeftRow.holds Try.pinned (OpenSpec.ofChange ropeLeftWrong)

/-- 'steeplejacklaw04.RopeRetires': WHATEVER THE INPUT: true; the input reads as it did. -/
def ropeRetiresSpec : ChangeSpec := { name := "ropeRetires", fn := fun _ => fun
  | [d1, d2] => { results := [.lit (.bool true)], args := [d1, d2] }
  | _ => none }
def ropeRetiresRow : OpenClaim := { program := "ytnhkkboddoiinaa", sum := "e53eb6e95b5553ffb400c60a23f13758c732c8b5ea71ddb99a5ad4e523371775", func := "steeplejack/steeplejacklaw04.RopeRetires", spec := "ropeRetires", unfollowed := true, recurses := true, apart := false }
def RopeRetiresSaid : Prop := ropeRetiresRow.holds Try.pinned (OpenSpec.ofChange ropeRetiresSpec)

/-- ITS FALSE NEIGHBOUR: 'it returns false'. Refute it at one input. -/
def ropeRetiresWrong : ChangeSpec := { name := "ropeRetires", fn := fun _ => fun
  | [d1, d2] => { results := [.lit (.bool false)], args := [d1, d2] }
  | _ => none }
def RopeRetiresWrongFalsely : Prop := ropeRetiresRow.holds Try.pinned (OpenSpec.ofChange ropeRetiresWrong)

/-- 'steeplejacklaw04.RopeWears': WHATEVER THE INPUT: true; the input reads as it did. -/
def ropeWearsSpec : ChangeSpec := { name := "ropeWears", fn := fun _ => fun
  | [d1, d2, d3] => { results := [.lit (.bool true)], args := [d1, d2, d3] }
  | _ => none }
def ropeWearsRow : OpenClaim := { program := "ytnhkkboddoiinaa", sum := "e53eb6e95b5553ffb400c60a23f13758c732c8b5ea71ddb99a5ad4e523371775", func := "steeplejack/steeplejacklaw04.RopeWears", spec := "ropeWears", unfollowed := true, recurses := true, apart := false }
def RopeWearsSaid : Prop := ropeWearsRow.holds Try.pinned (OpenSpec.ofChange ropeWearsSpec)

/-- ITS FALSE NEIGHBOUR: 'it returns false'. Refute it at one input. -/
def ropeWearsWrong : ChangeSpec := { name := "ropeWears", fn := fun _ => fun
  | [d1, d2, d3] => { results := [.lit (.bool false)], args := [d1, d2, d3] }
  | _ => none }
def RopeWearsWrongFalsely : Prop := ropeWearsRow.holds Try.pinned (OpenSpec.ofChange ropeWearsWrong)

/-- 'steeplejacklaw04.RopeUses': WHATEVER THE INPUT: true; the input reads as it did. -/
def ropeUsesSpec : ChangeSpec := { name := "ropeUses", fn := fun _ => fun
  | [d1, d2, d3] => { results := [.lit (.bool true)], args := [d1, d2, d3] }
  | _ => none }
def ropeUsesRow : OpenClaim := { program := "ytnhkkboddoiinaa", sum := "e53eb6e95b5553ffb400c60a23f13758c732c8b5ea71ddb99a5ad4e523371775", func := "steeplejack/steeplejacklaw04.RopeUses", spec := "ropeUses", unfollowed := true, recurses := true, apart := false }
def RopeUsesSaid : Prop := ropeUsesRow.holds Try.pinned (OpenSpec.ofChange ropeUsesSpec)

/-- ITS FALSE NEIGHBOUR: 'it returns false'. Refute it at one input. -/
def ropeUsesWrong : ChangeSpec := { name := "ropeUses", fn := fun _ => fun
  | [d1, d2, d3] => { results := [.lit (.bool false)], args := [d1, d2, d3] }
  | _ => none }
def RopeUsesWrongFalsely : Prop := ropeUsesRow.holds Try.pinned (OpenSpec.ofChange ropeUsesWrong)

/-- 'steeplejacklaw04.RopeWeakest': WHATEVER THE INPUT: true; the input reads as it did. -/
def ropeWeakestSpec : ChangeSpec := { name := "ropeWeakest", fn := fun _ => fun
  | [d1, d2, d3] => { results := [.lit (.bool true)], args := [d1, d2, d3] }
  | _ => none }
def ropeWeakestRow : OpenClaim := { program := "ytnhkkboddoiinaa", sum := "e53eb6e95b5553ffb400c60a23f13758c732c8b5ea71ddb99a5ad4e523371775", func := "steeplejack/steeplejacklaw04.RopeWeakest", spec := "ropeWeakest", unfollowed := true, recurses := true, apart := false }
def RopeWeakestSaid : Prop := ropeWeakestRow.holds Try.pinned (OpenSpec.ofChange ropeWeakestSpec)

/-- ITS FALSE NEIGHBOUR: 'it returns false'. Refute it at one input. -/
def ropeWeakestWrong : ChangeSpec := { name := "ropeWeakest", fn := fun _ => fun
  | [d1, d2, d3] => { results := [.lit (.bool false)], args := [d1, d2, d3] }
  | _ => none }
def RopeWeakestWrongFalsely : Prop := ropeWeakestRow.holds Try.pinned (OpenSpec.ofChange ropeWeakestWrong)

/- THE SECOND FORM. 'bulk': how many values and letters a reading holds, each counted each time it is reached (what is shared counts as often as it is met; a slice's spare places count too). A statement '..UptoSaid' is the law's where the arguments, and the package variables that the reading takes, are together of bulk at most 1048576: NARROWER than '..Said'. Prove '..Said' where nothing that the law and all that it calls make is longer than what came in: it says more and counts as full. Else prove '..UptoSaid'. A law counts once. -/
mutual
def uptoBulk {H : Type} : DataW H → Nat
  | .lit (.string bytes) => bytes.length + 1
  | .lit _ => 1
  | .nil => 1
  | .ptr d => uptoBulk d + 1
  | .slice elems spare => uptoBulkAll elems + uptoBulkAll spare + 1
  | .agg parts => uptoBulkAll parts + 1
  | .iface _ d => uptoBulk d + 1
  | .map entries => uptoBulkEntries entries + 1
  | .held _ => 1
def uptoBulkAll {H : Type} : List (DataW H) → Nat
  | [] => 0
  | d :: r => uptoBulk d + uptoBulkAll r
def uptoBulkEntries {H : Type} : List (Lit × DataW H) → Nat
  | [] => 0
  | x :: r => uptoBulkEntry x + uptoBulkEntries r
def uptoBulkEntry {H : Type} : Lit × DataW H → Nat
  | (.string bytes, d) => bytes.length + uptoBulk d + 1
  | (_, d) => uptoBulk d + 1
 end
def uptoSmall : (H : Type) → List (DataW H) → Bool := fun _ ds => decide (uptoBulkAll ds ≤ 1048576)
def OpenSpec.upto (s : _root_.Go.ChangeSpec) : _root_.Go.OpenSpec := { _root_.Go.OpenSpec.ofChange s with cond := some uptoSmall }

/-- 'steeplejacklaw04.RopeTackles', WHERE WHAT IT READS IS OF BULK AT MOST 1048576: true; the input reads as it did. -/
def ropeTacklesUptoRow : OpenClaim := { program := "ytnhkkboddoiinaa", sum := "e53eb6e95b5553ffb400c60a23f13758c732c8b5ea71ddb99a5ad4e523371775", func := "steeplejack/steeplejacklaw04.RopeTackles", spec := "ropeTackles", unfollowed := true, recurses := true, apart := false, narrowed := true }
def RopeTacklesUptoSaid : Prop := ropeTacklesUptoRow.holds Try.pinned (OpenSpec.upto ropeTacklesSpec)

/-- 'steeplejacklaw04.RopeParts', WHERE WHAT IT READS IS OF BULK AT MOST 1048576: true; the input reads as it did. -/
def ropePartsUptoRow : OpenClaim := { program := "ytnhkkboddoiinaa", sum := "e53eb6e95b5553ffb400c60a23f13758c732c8b5ea71ddb99a5ad4e523371775", func := "steeplejack/steeplejacklaw04.RopeParts", spec := "ropeParts", unfollowed := true, recurses := true, apart := false, narrowed := true }
def RopePartsUptoSaid : Prop := ropePartsUptoRow.holds Try.pinned (OpenSpec.upto ropePartsSpec)

/-- 'steeplejacklaw04.RopeGains', WHERE WHAT IT READS IS OF BULK AT MOST 1048576: true; the input reads as it did. -/
def ropeGainsUptoRow : OpenClaim := { program := "ytnhkkboddoiinaa", sum := "e53eb6e95b5553ffb400c60a23f13758c732c8b5ea71ddb99a5ad4e523371775", func := "steeplejack/steeplejacklaw04.RopeGains", spec := "ropeGains", unfollowed := true, recurses := true, apart := false, narrowed := true }
def RopeGainsUptoSaid : Prop := ropeGainsUptoRow.holds Try.pinned (OpenSpec.upto ropeGainsSpec)

/-- 'steeplejacklaw04.RopeShares', WHERE WHAT IT READS IS OF BULK AT MOST 1048576: true; the input reads as it did. -/
def ropeSharesUptoRow : OpenClaim := { program := "ytnhkkboddoiinaa", sum := "e53eb6e95b5553ffb400c60a23f13758c732c8b5ea71ddb99a5ad4e523371775", func := "steeplejack/steeplejacklaw04.RopeShares", spec := "ropeShares", unfollowed := true, recurses := true, apart := false, narrowed := true }
def RopeSharesUptoSaid : Prop := ropeSharesUptoRow.holds Try.pinned (OpenSpec.upto ropeSharesSpec)

/-- 'steeplejacklaw04.RopeWalks', WHERE WHAT IT READS IS OF BULK AT MOST 1048576: true; the input reads as it did. -/
def ropeWalksUptoRow : OpenClaim := { program := "ytnhkkboddoiinaa", sum := "e53eb6e95b5553ffb400c60a23f13758c732c8b5ea71ddb99a5ad4e523371775", func := "steeplejack/steeplejacklaw04.RopeWalks", spec := "ropeWalks", unfollowed := true, recurses := true, apart := false, narrowed := true }
def RopeWalksUptoSaid : Prop := ropeWalksUptoRow.holds Try.pinned (OpenSpec.upto ropeWalksSpec)

/-- 'steeplejacklaw04.RopeStands', WHERE WHAT IT READS IS OF BULK AT MOST 1048576: true; the input reads as it did. -/
def ropeStandsUptoRow : OpenClaim := { program := "ytnhkkboddoiinaa", sum := "e53eb6e95b5553ffb400c60a23f13758c732c8b5ea71ddb99a5ad4e523371775", func := "steeplejack/steeplejacklaw04.RopeStands", spec := "ropeStands", unfollowed := true, recurses := true, apart := false, narrowed := true }
def RopeStandsUptoSaid : Prop := ropeStandsUptoRow.holds Try.pinned (OpenSpec.upto ropeStandsSpec)

/-- 'steeplejacklaw04.RopeLevers', WHERE WHAT IT READS IS OF BULK AT MOST 1048576: true; the input reads as it did. -/
def ropeLeversUptoRow : OpenClaim := { program := "ytnhkkboddoiinaa", sum := "e53eb6e95b5553ffb400c60a23f13758c732c8b5ea71ddb99a5ad4e523371775", func := "steeplejack/steeplejacklaw04.RopeLevers", spec := "ropeLevers", unfollowed := true, recurses := true, apart := false, narrowed := true }
def RopeLeversUptoSaid : Prop := ropeLeversUptoRow.holds Try.pinned (OpenSpec.upto ropeLeversSpec)

/-- 'steeplejacklaw04.RopeLeft', WHERE WHAT IT READS IS OF BULK AT MOST 1048576: true; the input reads as it did. -/
def ropeLeftUptoRow : OpenClaim := { program := "ytnhkkboddoiinaa", sum := "e53eb6e95b5553ffb400c60a23f13758c732c8b5ea71ddb99a5ad4e523371775", func := "steeplejack/steeplejacklaw04.RopeLeft", spec := "ropeLeft", unfollowed := true, recurses := true, apart := false, narrowed := true }
def RopeLeftUptoSaid : Prop := ropeLeftUptoRow.holds Try.pinned (OpenSpec.upto ropeLeftSpec)

/-- 'steeplejacklaw04.RopeRetires', WHERE WHAT IT READS IS OF BULK AT MOST 1048576: true; the input reads as it did. -/
def ropeRetiresUptoRow : OpenClaim := { program := "ytnhkkboddoiinaa", sum := "e53eb6e95b5553ffb400c60a23f13758c732c8b5ea71ddb99a5ad4e523371775", func := "steeplejack/steeplejacklaw04.RopeRetires", spec := "ropeRetires", unfollowed := true, recurses := true, apart := false, narrowed := true }
def RopeRetiresUptoSaid : Prop := ropeRetiresUptoRow.holds Try.pinned (OpenSpec.upto ropeRetiresSpec)

/-- 'steeplejacklaw04.RopeWears', WHERE WHAT IT READS IS OF BULK AT MOST 1048576: true; the input reads as it did. -/
def ropeWearsUptoRow : OpenClaim := { program := "ytnhkkboddoiinaa", sum := "e53eb6e95b5553ffb400c60a23f13758c732c8b5ea71ddb99a5ad4e523371775", func := "steeplejack/steeplejacklaw04.RopeWears", spec := "ropeWears", unfollowed := true, recurses := true, apart := false, narrowed := true }
def RopeWearsUptoSaid : Prop := ropeWearsUptoRow.holds Try.pinned (OpenSpec.upto ropeWearsSpec)

/-- 'steeplejacklaw04.RopeUses', WHERE WHAT IT READS IS OF BULK AT MOST 1048576: true; the input reads as it did. -/
def ropeUsesUptoRow : OpenClaim := { program := "ytnhkkboddoiinaa", sum := "e53eb6e95b5553ffb400c60a23f13758c732c8b5ea71ddb99a5ad4e523371775", func := "steeplejack/steeplejacklaw04.RopeUses", spec := "ropeUses", unfollowed := true, recurses := true, apart := false, narrowed := true }
def RopeUsesUptoSaid : Prop := ropeUsesUptoRow.holds Try.pinned (OpenSpec.upto ropeUsesSpec)

/-- 'steeplejacklaw04.RopeWeakest', WHERE WHAT IT READS IS OF BULK AT MOST 1048576: true; the input reads as it did. -/
def ropeWeakestUptoRow : OpenClaim := { program := "ytnhkkboddoiinaa", sum := "e53eb6e95b5553ffb400c60a23f13758c732c8b5ea71ddb99a5ad4e523371775", func := "steeplejack/steeplejacklaw04.RopeWeakest", spec := "ropeWeakest", unfollowed := true, recurses := true, apart := false, narrowed := true }
def RopeWeakestUptoSaid : Prop := ropeWeakestUptoRow.holds Try.pinned (OpenSpec.upto ropeWeakestSpec)

end Rows
end Go.Proofs.Ytnhkkboddoiinaa
