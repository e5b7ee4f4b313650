/- Valid rigs: validRig and ValidRig of the reference. -/
import Derived.Test.YtkgfaemdgmmdkaaGreatDoorGxGha
namespace Go.Proofs.YtkgfaemdgmmdkaaGreatDoor.Gx
open Go.Proofs.YtkgfaemdgmmdkaaGreatDoor
open Go.RowKit
attribute [local go_sem] After.cell After.frozen After.lt After.le After.ne After.ne' After.set_eq After.size_set After.lt_add tx_size tx_toList

/-- A link that may stand at i. -/
def LkOk (n : Nat) (gm lm : Nat → List UInt8) (lf : Nat → Int) (i : Nat) : Prop := fdN gm n (lm i) ≠ none ∧ mhB i (lf i) = true ∧ fdN lm i (lm i) = none
def VrT (n k : Nat) (gm lm : Nat → List UInt8) (lf : Nat → Int) : Prop := ∀ i, i < k → LkOk n gm lm lf i
def VrP (n m : Nat) (gm lm : Nat → List UInt8) (lf : Nat → Int) : Prop := (1 ≤ m ∧ m ≤ 32) ∧ VrT n m gm lm lf
open Classical in
noncomputable def vrB (n m : Nat) (gm lm : Nat → List UInt8) (lf : Nat → Int) : Bool := decide (VrP n m gm lm lf)
section
variable {n m k i : Nat} {gm lm : Nat → List UInt8} {lf : Nat → Int}
theorem vrT_zero : VrT n 0 gm lm lf := fun i hi => by omega
theorem vrT_succ (h : VrT n k gm lm lf) (h1 : LkOk n gm lm lf k) : VrT n (k + 1) gm lm lf := fun i hi => by
  by_cases e : i = k
  · subst e; exact h1
  · exact h i (by omega)
open Classical in
theorem vrB_true (h : VrP n m gm lm lf) : vrB n m gm lm lf = true := by unfold vrB; exact decide_eq_true h
open Classical in
theorem vrB_of (h : vrB n m gm lm lf = true) : VrP n m gm lm lf := by unfold vrB at h; exact of_decide_eq_true h
open Classical in
theorem vrB_false (h : ¬ VrP n m gm lm lf) : vrB n m gm lm lf = false := by unfold vrB; exact decide_eq_false h
theorem vr_not (hi : i < m) (h : ¬ LkOk n gm lm lf i) : vrB n m gm lm lf = false := vrB_false fun g => h (g.2 i hi)
theorem vr_len (h : ¬ (1 ≤ m ∧ m ≤ 32)) : vrB n m gm lm lf = false := vrB_false fun g => h g.1
end
end Go.Proofs.YtkgfaemdgmmdkaaGreatDoor.Gx
