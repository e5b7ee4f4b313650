/- What tackles lift and what lifts a load: the reference's functions. -/
import Derived.Test.YtccjfmhbmieigaaDoorRoTack
namespace Go.Proofs.YtccjfmhbmieigaaDoor.Ro
open Go.Proofs.YtccjfmhbmieigaaDoor
open Go.RowKit
attribute [local go_sem] After.cell After.frozen After.lt After.le After.ne After.ne' After.set_eq After.size_set After.lt_add

/-- The reference's fraction. -/
def rnT (p k : Int) : Int := rN k (p.toNat - 1)
def rdT (p : Int) : Int := rD (p.toNat - 1)
theorem rnT_bd {p k : Int} (h : GoodT p k) : 1 ≤ rnT p k ∧ rnT p k ≤ 60000000000 ∧ 1 ≤ rdT p ∧ rdT p ≤ 10000000000 := by
  obtain ⟨⟨h1, h2⟩, h3, h4⟩ := h
  have a := rN_bd h3 h4 (p.toNat - 1)
  exact ⟨a.1, rN_le h3 h4 (by omega), a.2.2, rD_le (by omega)⟩
/-- The program's whole number is the reference's fraction, extended. -/
theorem gT_ext {p k : Int} (h : GoodT p k) : ∃ c : Int, 1 ≤ c ∧ gT p k = rnT p k * c ∧ 10000000000 = rdT p * c := by
  obtain ⟨⟨h1, h2⟩, h3, h4⟩ := h
  have := gsum_rN (k := k) (p.toNat - 1) (by omega)
  rw [show p.toNat - 1 + 1 = p.toNat by omega] at this
  exact ⟨_, this.2.2.1, this.1, this.2.1⟩

theorem rlift_eq {p k n : Int} (h : GoodT p k) : ratN (n * rnT p k) (rdT p) = ratN (n * gT p k) 10000000000 ∧ ratD (n * rnT p k) (rdT p) = ratD (n * gT p k) 10000000000 := by
  obtain ⟨c, hc, e1, e2⟩ := gT_ext h
  have := rnT_bd h
  rw [e1, e2, show n * (rnT p k * c) = n * rnT p k * c by grind]
  have := rat_scale (n := n * rnT p k) (d := rdT p) (c := c) (by omega) hc
  exact ⟨this.1.symm, this.2.symm⟩
theorem rpull_eq {p k n : Int} (h : GoodT p k) : -((-n * rdT p) / rnT p k) = plN p k n := by
  obtain ⟨c, hc, e1, e2⟩ := gT_ext h
  have := rnT_bd h
  unfold plN
  rw [e1, e2, show n * (rdT p * c) = (n * rdT p) * c by grind, ceil_scale hc]
  rw [Int.neg_mul]
  rfl
theorem rparts_eq {p k n m : Int} (h : GoodT p k) : n * rdT p ≤ m * rnT p k ↔ n * 10000000000 ≤ m * gT p k := by
  obtain ⟨c, hc, e1, e2⟩ := gT_ext h
  rw [e1, e2, show n * (rdT p * c) = (n * rdT p) * c by grind, show m * (rnT p k * c) = (m * rnT p k) * c by grind]
  exact (Int.mul_le_mul_right (by omega)).symm

end Go.Proofs.YtccjfmhbmieigaaDoor.Ro
