/- The cast of a minute, in the reference. -/
import Derived.Test.YtlnlgboeohfpdaaTwWdb
namespace Go.Proofs.Ytlnlgboeohfpdaa.Tw
open Go.Proofs.Ytlnlgboeohfpdaa
open Go.RowKit
attribute [local go_sem] After.cell After.frozen After.lt After.le After.ne After.ne' After.set_eq After.size_set After.lt_add

def CIn (fr to : Nat → Int) (m : Int) (k : Nat) : Prop := fr k ≤ m ∧ m < to k
instance (fr to : Nat → Int) (m : Int) (k : Nat) : Decidable (CIn fr to m k) := by unfold CIn; infer_instance
end Go.Proofs.Ytlnlgboeohfpdaa.Tw
