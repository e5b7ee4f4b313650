/- A slice of numbers as an argument, with its room. -/
import Derived.Test.YtfmoedlnjlkiiaaDoorLaidw
namespace Go.Proofs.YtfmoedlnjlkiiaaDoor
open Go.ChangeShapes Go.WideShapes Go.ChangeAt Go.RowKit Go.Joins Go.Deep
section
variable {H : Type} {enc : TypeId × Value → H} {P : Program} {w : World} {base : Nat} {spare : Nat → Bool} {held : Bool}
/-- As open_ins, with what nil is. -/
theorem open_insC {r : Reach} {b0 : Nat} {t e : TypeId} {v : Value} {d : DataW H} {p : List MemPlace} (ht : P.underlying t = some (.slice e)) (he : P.underlying e = some (.int .i64)) (ce : P.cellsOf e = 1)
    (hv : Value.okWide P w r b0 t v) (h : DataW.Trod enc P w base spare held t v d p) : ∃ (n : Nat) (f : Nat → Int) (a : Option Addr) (cap : Nat), v = .slice a n cap ∧ n ≤ cap ∧ cap ≤ 9223372036854775807 ∧ IAt w a n f ∧ (a = none → n = 0 ∧ cap = 0) := by
  have h1 := open_ins ht he ce hv h
  obtain ⟨n, f, a, cap, rfl, hl, hm, hi⟩ := (show ∃ n f a cap, v = .slice a n cap ∧ n ≤ cap ∧ cap ≤ 9223372036854775807 ∧ IAt w a n f by
    obtain ⟨n, f, h2⟩ := h1
    obtain ⟨a, cap, e, h3, h4, h5⟩ := h2.is
    exact ⟨n, f, a, cap, e, h3, h4, h5⟩)
  refine ⟨n, f, a, cap, rfl, hl, hm, hi, ?_⟩
  rintro rfl
  obtain ⟨fuel, h⟩ := h
  rcases open_ints ht he ce h with ⟨h0, _⟩ | ⟨a', len', cap', zs, h0, _⟩
  · simp [Value.cells] at h0
    exact ⟨h0.1, h0.2⟩
  · simp [Value.cells] at h0
end
end Go.Proofs.YtfmoedlnjlkiiaaDoor
