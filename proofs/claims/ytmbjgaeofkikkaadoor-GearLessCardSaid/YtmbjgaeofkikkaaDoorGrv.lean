/- A slice of texts as an argument. -/
import Derived.Test.YtmbjgaeofkikkaaDoorGrw
import Derived.Test.YtmbjgaeofkikkaaDoorGst
import Derived.SliceStrings
namespace Go.Proofs.YtmbjgaeofkikkaaDoor
open Go.ChangeShapes Go.WideShapes Go.ChangeAt Go.RowKit Go.Joins Go.Deep
section
variable {H : Type} {enc : TypeId × Value → H} {P : Program} {w : World} {base : Nat} {spare : Nat → Bool} {held : Bool}
theorem open_texts {r : Reach} {b0 : Nat} {t e : TypeId} {v : Value} {d : DataW H} {p : List MemPlace} (ht : P.underlying t = some (.slice e)) (he : P.underlying e = some .string) (ce : P.cellsOf e = 1)
    (hv : Value.okWide P w r b0 t v) (h : DataW.Trod enc P w base spare held t v d p) : ∃ (a : Option Addr) (n cap : Nat) (gs : Nat → List UInt8), v = .slice a n cap ∧ n ≤ cap ∧ cap ≤ 9223372036854775807 ∧ TAt w a n gs := by
  obtain ⟨a, len, cap, rfl⟩ := okWide_slice ht hv
  obtain ⟨fuel, h⟩ := h
  rcases open_strings ht he ce h with ⟨h0, _⟩ | ⟨a', len', cap', ss, h0, hb, hl, hm, hlen, _, hc, _⟩
  · simp [Value.cells] at h0
    obtain ⟨rfl, rfl, rfl⟩ := h0
    exact ⟨none, 0, 0, fun _ => [], rfl, Nat.le_refl _, by omega, fun k hk => absurd hk (by omega)⟩
  · simp [Value.cells] at h0
    obtain ⟨rfl, rfl, rfl⟩ := h0
    have hcap : cap ≤ 9223372036854775807 := by unfold maxLen at hm; omega
    have hlz : len ≤ ss.length := by rw [hlen]; split <;> omega
    refine ⟨some a', len, cap, fun i => (ss.getD i ByteArray.empty).data.toList, rfl, hl, hcap, fun k hk => ?_⟩
    have g0 := hc k (by omega)
    obtain ⟨b, off, sp⟩ := a'
    have gz := hc 0 (by omega)
    have hsp : sp = none := by simpa [Addr.add] using World.cell?_spot gz
    subst hsp
    rw [add_plain] at g0
    exact ⟨b, off, rfl, World.block_lt_of_cell? w _ g0, by rw [tx_data]; exact g0⟩
end
theorem cellsText : Tryd.prog.cellsOf 9 = 1 := by kernel_rfl
end Go.Proofs.YtmbjgaeofkikkaaDoor
