/- The beds of a stack, from the top down: plain mathematics. -/
import Derived.Test.YtcaelmaoldmgpaaDoorCrBack
namespace Go.Proofs.YtcaelmaoldmgpaaDoor.Cr
open Go.Proofs.YtcaelmaoldmgpaaDoor
open Go.RowKit

def zbed : BedV := ⟨0, fun _ => 0, 0, 0, 0, 0, 0⟩
/-- The bed behind the j topmost courses. -/
def bT (f : Nat → Nat → Int) (n : Nat) : Nat → BedV
  | 0 => zbed
  | j + 1 => (bT f n j).onto ((n - 1 - j : Nat) : Int) (f (n - 1 - j))
/-- The bed of the course k. -/
def bI (f : Nat → Nat → Int) (n k : Nat) : BedV := bT f n (n - k)
theorem bI_top (f : Nat → Nat → Int) (n : Nat) : bI f n n = zbed := by simp [bI, bT]
theorem bI_next {f : Nat → Nat → Int} {n k : Nat} (h : k < n) : bI f n k = (bI f n (k + 1)).onto (k : Int) (f k) := by
  unfold bI
  rw [show n - k = (n - (k + 1)) + 1 by omega, bT, show n - 1 - (n - (k + 1)) = k by omega]
theorem bI_ix {f : Nat → Nat → Int} {n k : Nat} (h : k < n) : (bI f n k).ix = k ∧ (bI f n k).c = f k := by rw [bI_next h]; exact ⟨rfl, rfl⟩

theorem bT_bd {f : Nat → Nat → Int} {n : Nat} (hG : GoodC n f) : ∀ j : Nat, j ≤ n →
    (j : Int) ≤ (bT f n j).wt ∧ (bT f n j).wt ≤ j * 1000000 ∧ -(j * 5000000000) ≤ (bT f n j).ea ∧ (bT f n j).ea ≤ j * 5000000000 ∧ -(j * 5000000000) ≤ (bT f n j).no ∧ (bT f n j).no ≤ j * 5000000000 ∧
      0 ≤ (bT f n j).fa ∧ (bT f n j).fa ≤ j * 10000000 ∧ 0 ≤ (bT f n j).pu ∧ (bT f n j).pu ≤ j * 2420000000000
  | 0, _ => by simp [bT, zbed]
  | j + 1, h => by
    obtain ⟨h1, h2, h3, h4, h5, h6, h7, h8, h9, h10⟩ := bT_bd hG j (by omega)
    have h60 := hG.2.1
    have hk := hG.2.2 (n - 1 - j) (by omega)
    unfold OkC InCr at hk
    simp only [bT, BedV.onto]
    generalize bT f n j = B at *
    generalize f (n - 1 - j) = c at *
    obtain ⟨m1, m2⟩ := prod_bd (a := c 1) (b := c 0) (A := 5000) (B := 2000) (by omega) (by omega) (by omega) (by omega)
    obtain ⟨m3, m4⟩ := prod_bd (a := c 3) (b := c 4) (A := 1000000) (B := 5000) (by omega) (by omega) (by omega) (by omega)
    obtain ⟨m5, m6⟩ := prod_bd (a := c 3) (b := c 5) (A := 1000000) (B := 5000) (by omega) (by omega) (by omega) (by omega)
    obtain ⟨m7, m8⟩ := prod_bd (a := B.fa * 2) (b := c 0) (A := 1200000000) (B := 2000) (by omega) (by omega) (by omega) (by omega)
    have m0 : 0 ≤ c 1 * c 0 := Int.mul_nonneg (by omega) (by omega)
    have m9 : 0 ≤ B.fa * 2 * c 0 := Int.mul_nonneg (by omega) (by omega)
    have ma : 0 ≤ c 1 * c 0 * c 0 := Int.mul_nonneg m0 (by omega)
    simp only [Int.reduceMul, Int.reduceNeg] at m1 m2 m3 m4 m5 m6 m7 m8
    obtain ⟨mb, mc⟩ := prod_bd (a := c 1 * c 0) (b := c 0) (A := 10000000) (B := 2000) (by omega) (by omega) (by omega) (by omega)
    simp only [Int.reduceMul, Int.reduceNeg] at mb mc
    generalize c 1 * c 0 * c 0 = p1 at *
    generalize c 1 * c 0 = p2 at *
    generalize c 3 * c 4 = p3 at *
    generalize c 3 * c 5 = p4 at *
    generalize B.fa * 2 * c 0 = p5 at *
    push_cast
    refine ⟨?_, ?_, ?_, ?_, ?_, ?_, ?_, ?_, ?_, ?_⟩ <;> omega
/-- The numbers of a bed of a good stack. -/
theorem bI_bd {f : Nat → Nat → Int} {n k : Nat} (hG : GoodC n f) (_hk : k ≤ n) :
    ((n - k : Nat) : Int) ≤ (bI f n k).wt ∧ (bI f n k).wt ≤ 60000000 ∧ -300000000000 ≤ (bI f n k).ea ∧ (bI f n k).ea ≤ 300000000000 ∧ -300000000000 ≤ (bI f n k).no ∧ (bI f n k).no ≤ 300000000000 ∧
      0 ≤ (bI f n k).fa ∧ (bI f n k).fa ≤ 600000000 ∧ 0 ≤ (bI f n k).pu ∧ (bI f n k).pu ≤ 145200000000000 := by
  obtain ⟨h1, h2, h3, h4, h5, h6, h7, h8, h9, h10⟩ := bT_bd hG (n - k) (by omega)
  have h60 := hG.2.1
  unfold bI
  refine ⟨h1, ?_, ?_, ?_, ?_, ?_, h7, ?_, h9, ?_⟩ <;> omega

/-- A bed in a box. -/
def BedCells (W : World) (B : Nat) (v : BedV) : Prop :=
  W.cell? ⟨B, 0, none⟩ = some (.int .i64 v.ix) ∧ W.cell? ⟨B, 1, none⟩ = some (.int .i64 (v.c 0)) ∧ W.cell? ⟨B, 2, none⟩ = some (.int .i64 (v.c 1)) ∧ W.cell? ⟨B, 3, none⟩ = some (.int .i64 (v.c 2)) ∧
    W.cell? ⟨B, 4, none⟩ = some (.int .i64 (v.c 3)) ∧ W.cell? ⟨B, 5, none⟩ = some (.int .i64 (v.c 4)) ∧ W.cell? ⟨B, 6, none⟩ = some (.int .i64 (v.c 5)) ∧ W.cell? ⟨B, 7, none⟩ = some (.int .i64 v.wt) ∧
    W.cell? ⟨B, 8, none⟩ = some (.int .i64 v.ea) ∧ W.cell? ⟨B, 9, none⟩ = some (.int .i64 v.no) ∧ W.cell? ⟨B, 10, none⟩ = some (.int .i64 v.fa) ∧ W.cell? ⟨B, 11, none⟩ = some (.int .i64 v.pu) ∧ ∀ o, W.frozen? ⟨B, o, none⟩ = false
theorem BedCells.lt {W : World} {B : Nat} {v : BedV} (h : BedCells W B v) : B < W.heap.size := World.block_lt_of_cell? W ⟨B, 0, none⟩ h.1
theorem BedCells.fr {M : Nat → Prop} {W V : World} {B : Nat} {v : BedV} (h : BedCells W B v) (hW : Fr M W V) (hB : ¬ M B) : BedCells V B v := by
  have hl := h.lt
  obtain ⟨h0, h1, h2, h3, h4, h5, h6, h7, h8, h9, h10, h11, hf⟩ := h
  exact ⟨hW.cell hB h0, hW.cell hB h1, hW.cell hB h2, hW.cell hB h3, hW.cell hB h4, hW.cell hB h5, hW.cell hB h6, hW.cell hB h7, hW.cell hB h8, hW.cell hB h9, hW.cell hB h10, hW.cell hB h11, fun o => (hW.frozen (p := ⟨B, o, none⟩) hB hl).trans (hf o)⟩

/-- A bed stored into a box. -/
def setBed (w : World) (B : Nat) (v : BedV) : World :=
  (((((((((((w.setCell ⟨B, 0, none⟩ (.int .i64 v.ix)).setCell ⟨B, 1, none⟩ (.int .i64 (v.c 0))).setCell ⟨B, 2, none⟩ (.int .i64 (v.c 1))).setCell ⟨B, 3, none⟩ (.int .i64 (v.c 2))).setCell ⟨B, 4, none⟩ (.int .i64 (v.c 3))).setCell ⟨B, 5, none⟩ (.int .i64 (v.c 4))).setCell ⟨B, 6, none⟩ (.int .i64 (v.c 5))).setCell ⟨B, 7, none⟩ (.int .i64 v.wt)).setCell ⟨B, 8, none⟩ (.int .i64 v.ea)).setCell ⟨B, 9, none⟩ (.int .i64 v.no)).setCell ⟨B, 10, none⟩ (.int .i64 v.fa)).setCell ⟨B, 11, none⟩ (.int .i64 v.pu)
theorem setBed_cells {w : World} {B : Nat} {u v : BedV} (h : BedCells w B u) : BedCells (setBed w B v) B v := by
  obtain ⟨h0, h1, h2, h3, h4, h5, h6, h7, h8, h9, h10, h11, hf⟩ := h
  unfold setBed
  refine ⟨?_, ?_, ?_, ?_, ?_, ?_, ?_, ?_, ?_, ?_, ?_, ?_, fun o => ?_⟩
  all_goals simp [go_sem, *]
theorem setBed_fr {M : Nat → Prop} {A w : World} {B : Nat} {v : BedV} (h : Fr M A w) (hB : M B) : Fr M A (setBed w B v) := by
  unfold setBed
  iterate 12 refine Fr.setCell ?_ (.inl hB) _
  exact h
theorem setBed_other {w : World} {B : Nat} {v : BedV} {p : Addr} (hp : p.block ≠ B) : (setBed w B v).cell? p = w.cell? p := by
  have := setBed_fr (M := fun i => i = B) (v := v) (Fr.refl w) rfl
  rcases Nat.lt_or_ge p.block w.heap.size with h | h
  · exact World.cell?_of_block (this.same _ h hp)
  · have e1 : w.cell? p = none := by
      cases hc : w.cell? p with
      | none => rfl
      | some u => have := World.block_lt_of_cell? w p hc; omega
    have e2 : (setBed w B v).heap.size = w.heap.size := by unfold setBed; simp
    cases hc : (setBed w B v).cell? p with
    | none => exact e1.symm
    | some u => have := World.block_lt_of_cell? _ p hc; omega
theorem setBed_size {w : World} {B : Nat} {v : BedV} : (setBed w B v).heap.size = w.heap.size := by unfold setBed; simp
end Go.Proofs.YtcaelmaoldmgpaaDoor.Cr
