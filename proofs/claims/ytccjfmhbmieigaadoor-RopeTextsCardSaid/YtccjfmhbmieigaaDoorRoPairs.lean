/- Slices of structs of two integers in memory. -/
import Derived.Below
import Derived.WalkKit
namespace Go.Proofs.YtccjfmhbmieigaaDoor.Ro
open Go.Proofs.YtccjfmhbmieigaaDoor
open Go.RowKit

/-- The cells of the pairs ps, from the place off of block b on. -/
def PrCells (W : World) (b off : Nat) (ps : List (Int × Int)) : Prop :=
  ∀ i, i < ps.length → W.cell? ⟨b, off + i * 2, none⟩ = some (.int .i64 (ps.getD i (0, 0)).1) ∧ W.cell? ⟨b, off + i * 2 + 1, none⟩ = some (.int .i64 (ps.getD i (0, 0)).2)
/-- The slice value v holds the pairs ps in the world W, in a block below B. -/
def Prs (W : World) (B : Nat) (v : Value) (ps : List (Int × Int)) : Prop :=
  (∃ a cap, v = .slice a 0 cap ∧ ps = []) ∨
  ∃ b off cap, v = .slice (some ⟨b, off, none⟩) ps.length cap ∧ b < B ∧ ps.length ≤ 9223372036854775807 ∧ PrCells W b off ps
theorem prCells_on {b off : Nat} {ps : List (Int × Int)} {w W : World} (hb : b < w.heap.size) (hc : PrCells w b off ps) (hW : Below w.heap.size w W) : PrCells W b off ps :=
  fun i hi => ⟨(hW.cell (p := ⟨b, _, none⟩) hb).trans (hc i hi).1, (hW.cell (p := ⟨b, _, none⟩) hb).trans (hc i hi).2⟩
theorem prs_on {v : Value} {ps : List (Int × Int)} {w W : World} (h : Prs w w.heap.size v ps) (hW : Below w.heap.size w W) : Prs W W.heap.size v ps := by
  rcases h with h | ⟨b, off, cap, rfl, hb, hl, hc⟩
  · exact .inl h
  · exact .inr ⟨b, off, cap, rfl, Nat.lt_of_lt_of_le hb hW.size, hl, prCells_on hb hc hW⟩
theorem prs_slice {W : World} {B : Nat} {v : Value} {ps : List (Int × Int)} (h : Prs W B v ps) : ∃ a cap, v = .slice a ps.length cap := by
  rcases h with ⟨a, cap, rfl, rfl⟩ | ⟨b, off, cap, rfl, _⟩
  · exact ⟨a, cap, rfl⟩
  · exact ⟨_, cap, rfl⟩
end Go.Proofs.YtccjfmhbmieigaaDoor.Ro
