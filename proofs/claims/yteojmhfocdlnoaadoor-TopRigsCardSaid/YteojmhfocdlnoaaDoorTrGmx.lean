/- Shares of the reference. -/
import Derived.Test.YteojmhfocdlnoaaDoorTrGgm
import Derived.Test.YteojmhfocdlnoaaDoorTrGmo
namespace Go.Proofs.YteojmhfocdlnoaaDoor.Tr
open Go.Proofs.YteojmhfocdlnoaaDoor
open Go.RowKit
attribute [local go_sem] After.cell After.frozen After.lt After.le After.ne After.ne' After.set_eq After.size_set After.lt_add tx_size tx_toList

theorem zat_grw {W : World} {b n cap : Nat} {g : Nat → Int} (h : GRw W b n g) : ZAt W (.slice (some ⟨b, 0, none⟩) n cap) ((List.range n).map g) := by
  have e : ((List.range n).map g).length = n := by simp
  refine ⟨some ⟨b, 0, none⟩, cap, by rw [e], fun i hi => ⟨b, 0, rfl, h.1, ?_⟩⟩
  rw [e] at hi
  rw [Nat.zero_add, (h.2 i hi).1, List.getD_eq_getElem?_getD, List.getElem?_map, List.getElem?_range hi]
  rfl
theorem shL_list (n : Nat) (gm lm : Nat → List UInt8) (gl : Nat → Int) (m : Nat) (lf : Nat → Int) : shL n gm lm gl m lf = (List.range (thN (enB m lf) m).length).map (ssN lf m (fun i => gl (ixO n gm lm i)) (thN (enB m lf) m)) := by
  have h := shN_list lf m (fun i => gl (ixO n gm lm i)) (thN (enB m lf) m) (thN (enB m lf) m).length (Nat.le_refl _)
  rw [List.take_length] at h
  exact h
section
variable (a : Option Addr) (n cap : Nat) (gm : Nat → List UInt8) (gl gd : Nat → Int) (gb : Nat → List UInt8) (al : Option Addr) (m capl : Nat) (lm : Nat → List UInt8) (lf : Nat → Int) (w : World) (hA : ItAt w a n gm gl gd gb) (hL : LkAt w al m lm lf) (hn : n ≤ 1000) (hm : m ≤ 1000) (hcap : m ≤ capl) (h1 : Sht n gm) (h2 : Sht n gb) (h3 : Sht m lm)
include hA hL hn hm hcap h1 h2 h3
end
end Go.Proofs.YteojmhfocdlnoaaDoor.Tr
