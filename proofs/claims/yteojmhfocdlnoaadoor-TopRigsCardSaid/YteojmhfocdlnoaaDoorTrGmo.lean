/- Most of the program. -/
import Derived.Test.YteojmhfocdlnoaaDoorTrGes
namespace Go.Proofs.YteojmhfocdlnoaaDoor.Tr
open Go.Proofs.YteojmhfocdlnoaaDoor
open Go.RowKit
attribute [local go_sem] After.cell After.frozen After.lt After.le After.ne After.ne' After.set_eq After.size_set After.lt_add tx_size tx_toList

theorem gat_of {W : World} {B : Nat} {v : Value} {n : Nat} {g : Nat → Int} (h : W.ownsRow B 3 1 v n (gxs g n)) : ∃ a cap, v = .slice a n cap ∧ GAt W a n g := by
  obtain ⟨a, cap, rfl⟩ := ownsR_shape h
  refine ⟨a, cap, rfl, fun i hi => ?_⟩
  obtain ⟨g', c, e⟩ := Go.Joins.ownsRow_form h (by omega)
  cases e
  refine ⟨g', 0, rfl, (h.lt g' rfl).2, ?_⟩
  rw [Nat.zero_add, h.cellAt _ (by omega)]
  exact gxs_get hi
/-- What Most answers, of a link that is one. -/
def moN (n : Nat) (gm lm : Nat → List UInt8) (gl : Nat → Int) (m : Nat) (lf : Nat → Int) (k : Nat) : Int := mnU (fun i => gl (ixO n gm lm i)) (gl (ixO n gm lm k)) (upL lf (m + 1) (k : Nat))
section
variable (a : Option Addr) (n cap : Nat) (gm : Nat → List UInt8) (gl gd : Nat → Int) (gb : Nat → List UInt8) (al : Option Addr) (m capl : Nat) (lm : Nat → List UInt8) (lf : Nat → Int) (w : World) (hA : ItAt w a n gm gl gd gb) (hL : LkAt w al m lm lf) (hn : n ≤ 1000) (hm : m ≤ 1000) (hcap : m ≤ capl) (h1 : Sht n gm) (h2 : Sht n gb) (h3 : Sht m lm)
include hA hL hn hm hcap h1 h2 h3
end
end Go.Proofs.YteojmhfocdlnoaaDoor.Tr
