/- Ends of the reference; two lists of numbers that are the same. -/
import Derived.Test.YteojmhfocdlnoaaDoorTrGth
namespace Go.Proofs.YteojmhfocdlnoaaDoor.Tr
open Go.Proofs.YteojmhfocdlnoaaDoor
open Go.RowKit
attribute [local go_sem] After.cell After.frozen After.lt After.le After.ne After.ne' After.set_eq After.size_set After.lt_add tx_size tx_toList

/-- Where a slice's numbers lie. -/
def NAt (W : World) (v : Value) (L : List Nat) : Prop := ∃ a cap, v = .slice a L.length cap ∧ ∀ i, i < L.length → ∃ b off, a = some ⟨b, off, none⟩ ∧ b < W.heap.size ∧ W.cell? ⟨b, off + i, none⟩ = some (.int .i64 (L.getD i 0 : Nat))
theorem NAt.on {w W : World} {v : Value} {L : List Nat} (h : NAt w v L) (hb : Below w.heap.size w W) : NAt W v L := by
  obtain ⟨a, cap, e, h1⟩ := h
  refine ⟨a, cap, e, fun i hi => ?_⟩
  obtain ⟨b, off, e2, h2, h3⟩ := h1 i hi
  exact ⟨b, off, e2, Nat.lt_of_lt_of_le h2 hb.size, (hb.cell (p := ⟨b, off + i, none⟩) h2).trans h3⟩
theorem nat_of {W : World} {B : Nat} {v : Value} {L : List Nat} (h : W.ownsRow B 3 1 v L.length (ivs L)) : NAt W v L := by
  obtain ⟨a, cap, rfl⟩ := ownsR_shape h
  refine ⟨a, cap, rfl, fun i hi => ?_⟩
  obtain ⟨g, c, e⟩ := Go.Joins.ownsRow_form h (by omega)
  cases e
  refine ⟨g, 0, rfl, (h.lt g rfl).2, ?_⟩
  rw [Nat.zero_add, h.cellAt _ (by omega)]
  unfold ivs
  rw [List.getElem?_map, List.getElem?_eq_getElem hi]
  simp [hi]
/-- What Ends answers. -/
def EnR (b : Bool) (L : List Nat) (w' : World) (e : Ending) : Prop := match b with
  | true => ∃ v, e = .returned (.tuple #[v, .int .i64 0]) ∧ NAt w' v L
  | false => e = .returned (.tuple #[.slice none 0 0, .int .i64 1])
section
variable (a : Option Addr) (n cap : Nat) (gm : Nat → List UInt8) (gl gd : Nat → Int) (gb : Nat → List UInt8) (al : Option Addr) (m capl : Nat) (lm : Nat → List UInt8) (lf : Nat → Int) (w : World) (hA : ItAt w a n gm gl gd gb) (hL : LkAt w al m lm lf) (hn : n ≤ 1000) (hm : m ≤ 1000) (hcap : m ≤ capl) (h1 : Sht n gm) (h2 : Sht n gb) (h3 : Sht m lm)
include hA hL hn hm hcap h1 h2 h3
end
end Go.Proofs.YteojmhfocdlnoaaDoor.Tr
