/- Weight and Centre in the program, by what bedAt hands back. -/
import Derived.Test.YtcaelmaoldmgpaaDoorCrArmc
namespace Go.Proofs.YtcaelmaoldmgpaaDoor.Cr
open Go.Proofs.YtcaelmaoldmgpaaDoor
open Go.RowKit
attribute [local go_sem] After.cell After.frozen After.lt After.le After.ne After.ne' After.set_eq After.size_set After.lt_add

theorem after_ofB {x w1 : World} (h : Below x.heap.size x w1) : ∃ y : After x, w1 = y.w := ⟨⟨w1, h⟩, rfl⟩
theorem res22 (w : World) {B C : Nat} {u0 u1 u2 u3 : Value} (v0 v1 v2 v3 : Value) (hBC : B ≠ C) (h0 : w.cell? ⟨B, 0, none⟩ = some u0) (h1 : w.cell? ⟨B, 1, none⟩ = some u1) (h2 : w.cell? ⟨C, 0, none⟩ = some u2) (h3 : w.cell? ⟨C, 1, none⟩ = some u3) :
    ((((w.setCell ⟨B, 0, none⟩ v0).setCell ⟨B, 1, none⟩ v1).setCell ⟨C, 0, none⟩ v2).setCell ⟨C, 1, none⟩ v3).cell? ⟨B, 0, none⟩ = some v0 ∧ ((((w.setCell ⟨B, 0, none⟩ v0).setCell ⟨B, 1, none⟩ v1).setCell ⟨C, 0, none⟩ v2).setCell ⟨C, 1, none⟩ v3).cell? ⟨B, 1, none⟩ = some v1 ∧
    ((((w.setCell ⟨B, 0, none⟩ v0).setCell ⟨B, 1, none⟩ v1).setCell ⟨C, 0, none⟩ v2).setCell ⟨C, 1, none⟩ v3).cell? ⟨C, 0, none⟩ = some v2 ∧ ((((w.setCell ⟨B, 0, none⟩ v0).setCell ⟨B, 1, none⟩ v1).setCell ⟨C, 0, none⟩ v2).setCell ⟨C, 1, none⟩ v3).cell? ⟨C, 1, none⟩ = some v3 := by
  have hCB : C ≠ B := fun h => hBC h.symm
  refine ⟨?_, ?_, ?_, ?_⟩
  all_goals simp [go_sem, *]
theorem _root_.Go.Proofs.YtcaelmaoldmgpaaDoor.After.set22 {W : World} (z : After W) {B C n : Nat} {u0 u1 u2 u3 : Value} (v0 v1 v2 v3 : Value) (hBC : B ≠ C) (h0 : z.w.cell? ⟨B, 0, none⟩ = some u0) (h1 : z.w.cell? ⟨B, 1, none⟩ = some u1) (h2 : z.w.cell? ⟨C, 0, none⟩ = some u2) (h3 : z.w.cell? ⟨C, 1, none⟩ = some u3)
    {w : World} (hb : Below n w z.w) (hB : n ≤ B) (hC : n ≤ C) :
    ∃ X, (((z.w.setCell ⟨B, 0, none⟩ v0).setCell ⟨B, 1, none⟩ v1).setCell ⟨C, 0, none⟩ v2).setCell ⟨C, 1, none⟩ v3 = X ∧ X.cell? ⟨B, 0, none⟩ = some v0 ∧ X.cell? ⟨B, 1, none⟩ = some v1 ∧ X.cell? ⟨C, 0, none⟩ = some v2 ∧ X.cell? ⟨C, 1, none⟩ = some v3 ∧ Below n w X := by
  obtain ⟨r0, r1, r2, r3⟩ := res22 z.w v0 v1 v2 v3 hBC h0 h1 h2 h3
  exact ⟨_, rfl, r0, r1, r2, r3, (((hb.setCell hB _).setCell hB _).setCell hC _).setCell hC _⟩
/-- What bedAt hands back in every later world. -/
def BSay (w : World) (v : Value) (i : Int) (bv : BedV) (e : Int) : Prop := ∀ W, Below w.heap.size w W → Calls Tryd.prog 67 #[v, .int .i64 i] W fun r w' => r = .returned (.tuple #[bv.val, .int .i64 e]) ∧ Below W.heap.size W w'

end Go.Proofs.YtcaelmaoldmgpaaDoor.Cr
