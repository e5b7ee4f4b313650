/- The reference's over and bedError. The reference's sums over a bed, and its first error. -/
import Derived.Test.YtcaelmaoldmgpaaDoorCrBedm
import Derived.Test.YtcaelmaoldmgpaaDoorCrSrat
namespace Go.Proofs.YtcaelmaoldmgpaaDoor.Cr
open Go.Proofs.YtcaelmaoldmgpaaDoor
open Go.RowKit
attribute [local go_sem] After.cell After.frozen After.lt After.le After.ne After.ne' After.set_eq After.size_set After.lt_add

theorem sumTo_first (g : Nat → Int) : ∀ m, sumTo g (m + 1) = g 0 + sumTo (fun j => g (j + 1)) m
  | 0 => by simp [sumTo]
  | m + 1 => by
    have := sumTo_first g m
    show sumTo g (m + 1) + g (m + 1) = g 0 + (sumTo (fun j => g (j + 1)) m + g (m + 1))
    omega
/-- How high the course b + m begins above the bed b. -/
def zS (f : Nat → Nat → Int) (b m : Nat) : Int := sumTo (fun j => f (b + j) 0) m
theorem zS_next (f : Nat → Nat → Int) (b m : Nat) : zS f b (m + 1) = zS f b m + f (b + m) 0 := rfl
theorem zS_first (f : Nat → Nat → Int) (b m : Nat) : zS f b (m + 1) = f b 0 + zS f (b + 1) m := by
  unfold zS
  rw [sumTo_first]
  have : (fun j => f (b + (j + 1)) 0) = fun j => f (b + 1 + j) 0 := funext fun j => by rw [show b + (j + 1) = b + 1 + j by omega]
  rw [this]; rfl
/-- A further course on top. -/
theorem bI_more (f : Nat → Nat → Int) : ∀ (m b : Nat), (bI f (b + m + 1) b).wt = (bI f (b + m) b).wt + f (b + m) 3 ∧ (bI f (b + m + 1) b).ea = (bI f (b + m) b).ea + f (b + m) 3 * f (b + m) 4 ∧ (bI f (b + m + 1) b).no = (bI f (b + m) b).no + f (b + m) 3 * f (b + m) 5 ∧
    (bI f (b + m + 1) b).fa = (bI f (b + m) b).fa + f (b + m) 1 * f (b + m) 0 ∧ (bI f (b + m + 1) b).pu = (bI f (b + m) b).pu + f (b + m) 1 * f (b + m) 0 * (2 * zS f b m + f (b + m) 0)
  | 0, b => by
    simp only [Nat.add_zero]
    rw [bI_next (show b < b + 1 by omega), bI_top, bI_top]
    refine ⟨?_, ?_, ?_, ?_, ?_⟩ <;> simp [BedV.onto, zbed, zS, sumTo]
  | m + 1, b => by
    obtain ⟨h1, h2, h3, h4, h5⟩ := bI_more f m (b + 1)
    rw [show b + 1 + m = b + (m + 1) by omega] at h1 h2 h3 h4 h5
    rw [bI_next (show b < b + (m + 1) + 1 by omega), bI_next (show b < b + (m + 1) by omega)]
    simp only [BedV.onto]
    rw [h1, h2, h3, h4, h5, zS_first]
    generalize f (b + (m + 1)) 1 * f (b + (m + 1)) 0 = p
    generalize f (b + (m + 1)) 3 * f (b + (m + 1)) 4 = p2
    generalize f (b + (m + 1)) 3 * f (b + (m + 1)) 5 = p3
    generalize f (b + (m + 1)) 0 = c0
    generalize zS f (b + 1) m = z
    generalize f b 0 = h
    generalize f b 1 * h = q
    generalize (bI f (b + (m + 1)) (b + 1)).fa = fa
    generalize (bI f (b + (m + 1)) (b + 1)).pu = pu
    refine ⟨by omega, by omega, by omega, by omega, ?_⟩
    grind
theorem zS_bd {f : Nat → Nat → Int} {n b m : Nat} (hG : GoodC n f) (h : b + m ≤ n) : 0 ≤ zS f b m ∧ zS f b m ≤ 120000 := by
  have h60 := hG.2.1
  have : 0 ≤ zS f b m ∧ zS f b m ≤ m * 2000 := by
    induction m with
    | zero => simp [zS, sumTo]
    | succ m ih =>
      have := ih (by omega)
      have hk := hG.2.2 (b + m) (by omega)
      unfold OkC InCr at hk
      rw [zS_next]
      omega
  omega
theorem goodC_take {f : Nat → Nat → Int} {n m : Nat} (hG : GoodC n f) (h1 : 1 ≤ m) (h : m ≤ n) : GoodC m f := ⟨h1, Nat.le_trans h hG.2.1, fun k hk => hG.2.2 k (Nat.lt_of_lt_of_le hk h)⟩
/-- The numbers that the reference adds up, in the middle of it. -/
theorem part_bd {f : Nat → Nat → Int} {n b m : Nat} (hG : GoodC n f) (h : b + m ≤ n) :
    0 ≤ (bI f (b + m) b).wt ∧ (bI f (b + m) b).wt ≤ 60000000 ∧ -300000000000 ≤ (bI f (b + m) b).ea ∧ (bI f (b + m) b).ea ≤ 300000000000 ∧ -300000000000 ≤ (bI f (b + m) b).no ∧ (bI f (b + m) b).no ≤ 300000000000 ∧ 0 ≤ (bI f (b + m) b).pu ∧ (bI f (b + m) b).pu ≤ 145200000000000 := by
  rcases Nat.eq_zero_or_pos (b + m) with h0 | h0
  · obtain rfl : b = 0 := by omega
    obtain rfl : m = 0 := by omega
    simp [bI, bT, zbed]
  · obtain ⟨h1, h2, h3, h4, h5, h6, h7, h8, h9, h10⟩ := bI_bd (goodC_take hG h0 h) (k := b) (by omega)
    omega

/-- The four sums in a box. -/
def AbC (W : World) (B : Nat) (x0 x1 x2 x3 : Int) : Prop :=
  W.cell? ⟨B, 0, none⟩ = some (.int .i64 x0) ∧ W.cell? ⟨B, 1, none⟩ = some (.int .i64 x1) ∧ W.cell? ⟨B, 2, none⟩ = some (.int .i64 x2) ∧ W.cell? ⟨B, 3, none⟩ = some (.int .i64 x3) ∧ ∀ o, W.frozen? ⟨B, o, none⟩ = false
theorem AbC.fr {M : Nat → Prop} {W V : World} {B : Nat} {x0 x1 x2 x3 : Int} (h : AbC W B x0 x1 x2 x3) (hW : Fr M W V) (hB : ¬ M B) : AbC V B x0 x1 x2 x3 := by
  have hl : B < W.heap.size := World.block_lt_of_cell? W ⟨B, 0, none⟩ h.1
  obtain ⟨h0, h1, h2, h3, hf⟩ := h
  exact ⟨hW.cell hB h0, hW.cell hB h1, hW.cell hB h2, hW.cell hB h3, fun o => (hW.frozen (p := ⟨B, o, none⟩) hB hl).trans (hf o)⟩
def setAb (w : World) (B : Nat) (x0 x1 x2 x3 : Int) : World :=
  (((w.setCell ⟨B, 0, none⟩ (.int .i64 x0)).setCell ⟨B, 1, none⟩ (.int .i64 x1)).setCell ⟨B, 2, none⟩ (.int .i64 x2)).setCell ⟨B, 3, none⟩ (.int .i64 x3)
theorem setAb_cells {w : World} {B : Nat} {y0 y1 y2 y3 x0 x1 x2 x3 : Int} (h : AbC w B y0 y1 y2 y3) : AbC (setAb w B x0 x1 x2 x3) B x0 x1 x2 x3 := by
  obtain ⟨h0, h1, h2, h3, hf⟩ := h
  unfold setAb
  refine ⟨?_, ?_, ?_, ?_, fun o => ?_⟩
  all_goals simp [go_sem, *]
theorem setAb_fr {M : Nat → Prop} {A w : World} {B : Nat} {x0 x1 x2 x3 : Int} (h : Fr M A w) (hB : M B) : Fr M A (setAb w B x0 x1 x2 x3) := by
  unfold setAb
  iterate 4 refine Fr.setCell ?_ (.inl hB) _
  exact h
end Go.Proofs.YtcaelmaoldmgpaaDoor.Cr
namespace Go.Proofs.YtcaelmaoldmgpaaDoor.Cr
open Go.Proofs.YtcaelmaoldmgpaaDoor
open Go.RowKit
attribute [local go_sem] After.lt After.le After.ne After.ne' After.lt_add

def abV (v : BedV) : Value := .agg #[.int .i64 v.wt, .int .i64 v.ea, .int .i64 v.no, .int .i64 v.pu]

end Go.Proofs.YtcaelmaoldmgpaaDoor.Cr
