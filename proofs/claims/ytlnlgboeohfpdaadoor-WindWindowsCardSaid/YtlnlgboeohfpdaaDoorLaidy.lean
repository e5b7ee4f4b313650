/- Arguments opened: a slice of casts. -/
import Derived.Test.YtlnlgboeohfpdaaDoorLaidw
import Derived.Test.YtlnlgboeohfpdaaDoorWdb
namespace Go.Proofs.YtlnlgboeohfpdaaDoor
open Go.ChangeShapes Go.WideShapes Go.ChangeAt Go.RowKit Go.Joins Go.Deep
theorem cellsCast : Tryd.prog.cellsOf 95 = 4 := by kernel_rfl
section
variable {H : Type} {enc : TypeId × Value → H} {P : Program} {w : World} {base : Nat} {spare : Nat → Bool} {held : Bool}
theorem open_casts {r : Reach} {b0 : Nat} {t e : TypeId} {fs : Array Field} {v : Value} {d : DataW H} {p : List MemPlace} (ht : P.underlying t = some (.slice e)) (he : P.underlying e = some (.struct fs)) (ce : P.cellsOf e = 4) (hs : fs.size = 4) (hf : intFieldsB P 0 fs.toList = true)
    (hv : Value.okWide P w r b0 t v) (h : DataW.Trod enc P w base spare held t v d p) :
    ∃ a m cap fr to lo hi, v = .slice a m cap ∧ m ≤ 9223372036854775807 ∧ CAt w a m fr to lo hi := by
  rcases open_rows ht he (by omega) ce hs hf hv h with ⟨a, cap, rfl⟩ | ⟨b, off, len, cap, V, rfl, hpos, hlen, hb, hc⟩
  · exact ⟨a, 0, cap, fun _ => 0, fun _ => 0, fun _ => 0, fun _ => 0, rfl, by omega, fun k hk => absurd hk (by omega)⟩
  · refine ⟨_, len, cap, fun i => V i 0, fun i => V i 1, fun i => V i 2, fun i => V i 3, rfl, by unfold maxLen at hlen; omega, fun k hk => ⟨b, off, rfl, hb, ?_, ?_, ?_, ?_⟩⟩
    · simpa using (hc k hk 0 (by omega)).1
    · exact (hc k hk 1 (by omega)).1
    · exact (hc k hk 2 (by omega)).1
    · exact (hc k hk 3 (by omega)).1
end
end Go.Proofs.YtlnlgboeohfpdaaDoor
