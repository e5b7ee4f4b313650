/- What Parse, Format, ValidUses and Same of uses say in every later world. -/
import Derived.Test.YtccjfmhbmieigaaDoorTwoq
import Derived.Test.YtccjfmhbmieigaaDoorTwof
import Derived.Test.YtccjfmhbmieigaaDoorRoTestr
namespace Go.Proofs.YtccjfmhbmieigaaDoor
open Go.RowKit Ro

theorem pansU_whole {W : World} {B : Nat} {ls : List (List UInt8)} {x : Ending} {ps : List (Int × Int)} (h : PAnsU W B ls x) (hw : WholeU ls ps) : ∃ v, x = .returned (.tuple #[v, .int .i64 0, .int .i64 0]) ∧ W.ownsRow B 75 2 v ps.length (pcv ps) := by
  rcases h with ⟨qs, v, h1, rfl, h3⟩ | ⟨k', h1, _⟩
  · obtain rfl := wholeU_same h1 hw
    exact ⟨v, rfl, h3⟩
  · exact (wholeU_stops hw h1).elim
theorem pansU_stops {W : World} {B : Nat} {ls : List (List UInt8)} {x : Ending} {k : Nat} (h : PAnsU W B ls x) (hs : StopsU ls k) : x = .returned (.tuple #[.slice none 0 0, .int .i64 k, .int .i64 2]) := by
  rcases h with ⟨qs, v, h1, _⟩ | ⟨k', h1, rfl⟩
  · exact (wholeU_stops h1 hs).elim
  · rw [stopsU_same h1 hs]
/-- A Parse that reads uses. -/
def ReadsU (w' : World) (ps : List (Int × Int)) (e : Ending) : Prop := ∃ a cap, e = .returned (.tuple #[.slice a ps.length cap, .int .i64 0, .int .i64 0]) ∧ Prc w' w'.heap.size (.slice a ps.length cap) ps
theorem readsU_of {W : World} {B : Nat} {ls : List (List UInt8)} {x : Ending} {ps : List (Int × Int)} (h : PAnsU W B ls x) (hw : WholeU ls ps) : ReadsU W ps x := by
  obtain ⟨v, h3, h4⟩ := pansU_whole h hw
  have h5 := prc_owns h4
  obtain ⟨a, cap, rfl⟩ := prc_slice h5
  exact ⟨a, cap, h3, h5⟩
theorem parseU_whole {L : List UInt8} {w : World} {ps : List (Int × Int)} (hL : L.length ≤ 65536) (hS : Std w) (hw : WholeU (wordsL 10 L) ps) : ∀ W, Below w.heap.size w W →
    Calls Tryd.prog 12 #[.string (tx L)] W fun e w' => ReadsU w' ps e ∧ Below W.heap.size W w' := fun W hW =>
  (parseU_any L W hL (hS.on hW)).mono fun _ _ ⟨⟨_, h⟩, h2⟩ => ⟨readsU_of h hw, h2⟩
theorem rparseU_whole {L : List UInt8} {w : World} {ps : List (Int × Int)} (hL : L.length ≤ 65536) (hw : WholeU (wordsL 10 L) ps) : ∀ W, Below w.heap.size w W →
    Calls Tryd.prog 13 #[.string (tx L)] W fun e w' => ReadsU w' ps e ∧ Below W.heap.size W w' := fun W _ =>
  (rparseU_any L W hL).mono fun _ _ ⟨⟨_, h⟩, h2⟩ => ⟨readsU_of h hw, h2⟩
def NoTextU (w : World) (L : List UInt8) (k c : Int) : Prop :=
  (∀ W, Below w.heap.size w W → Calls Tryd.prog 12 #[.string (tx L)] W fun e w' => e = .returned (.tuple #[.slice none 0 0, .int .i64 k, .int .i64 c]) ∧ Below W.heap.size W w') ∧
  (∀ W, Below w.heap.size w W → Calls Tryd.prog 13 #[.string (tx L)] W fun e w' => e = .returned (.tuple #[.slice none 0 0, .int .i64 k, .int .i64 c]) ∧ Below W.heap.size W w') ∧ (c == 0) = false
theorem noTextU_long {L : List UInt8} (w : World) (hL : 65536 < L.length) : NoTextU w L 0 3 :=
  ⟨fun W _ => parseU_long L W hL, fun W _ => rparseU_long L W hL, rfl⟩
theorem noTextU_stops {L : List UInt8} {w : World} {k : Nat} (hL : L.length ≤ 65536) (hS : Std w) (hs : StopsU (wordsL 10 L) k) : NoTextU w L k 2 :=
  ⟨fun W hW => (parseU_any L W hL (hS.on hW)).mono fun _ _ ⟨⟨_, h⟩, h2⟩ => ⟨pansU_stops h hs, h2⟩, fun W _ => (rparseU_any L W hL).mono fun _ _ ⟨⟨_, h⟩, h2⟩ => ⟨pansU_stops h hs, h2⟩, rfl⟩
theorem noTextU_none {L : List UInt8} {w : World} (hL : L.length ≤ 65536) (hS : Std w) (h1 : ¬ ∃ ps, WholeU (wordsL 10 L) ps) (h2 : ¬ ∃ k, StopsU (wordsL 10 L) k) : NoTextU w L 0 2 :=
  ⟨fun W hW => (parseU_any L W hL (hS.on hW)).mono fun _ _ ⟨⟨_, h⟩, _⟩ => by
      rcases h with ⟨ps, _, h, _⟩ | ⟨k, h, _⟩
      · exact (h1 ⟨ps, h⟩).elim
      · exact (h2 ⟨k, h⟩).elim,
    fun W _ => (rparseU_any L W hL).mono fun _ _ ⟨⟨_, h⟩, _⟩ => by
      rcases h with ⟨ps, _, h, _⟩ | ⟨k, h, _⟩
      · exact (h1 ⟨ps, h⟩).elim
      · exact (h2 ⟨k, h⟩).elim, rfl⟩
theorem textU_or {w : World} (L : List UInt8) (hS : Std w) : (L.length ≤ 65536 ∧ ∃ ps, WholeU (wordsL 10 L) ps) ∨ ∃ k c, NoTextU w L k c := by
  by_cases hL : L.length ≤ 65536
  · by_cases h1 : ∃ ps, WholeU (wordsL 10 L) ps
    · exact .inl ⟨hL, h1⟩
    · by_cases h2 : ∃ k, StopsU (wordsL 10 L) k
      · obtain ⟨k, h⟩ := h2
        exact .inr ⟨_, _, noTextU_stops hL hS h⟩
      · exact .inr ⟨_, _, noTextU_none hL hS h1 h2⟩
  · exact .inr ⟨_, _, noTextU_long w (by omega)⟩

/-- Format of uses, good or bad. -/
def formUS (ps : List (Int × Int)) : List UInt8 := if GoodU ps then formU ps else []
theorem formatU_say {w : World} {v : Value} {ps : List (Int × Int)} (h : Prc w w.heap.size v ps) (hl : ps.length ≤ 1000) (hS : Std w) : ∀ W, Below w.heap.size w W →
    Calls Tryd.prog 15 #[v] W fun e w' => e = .returned (.string (tx (formUS ps))) ∧ Below W.heap.size W w' := fun W hW => by
  unfold formUS
  by_cases hG : GoodU ps
  · rw [if_pos hG]
    exact formatU_ok v ps W (prc_on h hW) hG (hS.on hW)
  · rw [if_neg hG]
    exact formatU_bad v W fun X hX => validUses_v v ps X (prc_on (prc_on h hW) hX) hl false (decide_eq_false hG)
theorem rformatU_say {w : World} {v : Value} {ps : List (Int × Int)} (h : Prc w w.heap.size v ps) (hl : ps.length ≤ 1000) : ∀ W, Below w.heap.size w W →
    Calls Tryd.prog 16 #[v] W fun e w' => e = .returned (.string (tx (formUS ps))) ∧ Below W.heap.size W w' := fun W hW => by
  unfold formUS
  by_cases hG : GoodU ps
  · rw [if_pos hG]
    exact rformatU_ok v ps W (prc_on h hW) hG
  · rw [if_neg hG]
    exact rformatU_bad v W fun X hX => rvalidUses_v v ps X (prc_on (prc_on h hW) hX) hl false (decide_eq_false hG)
theorem same_prc {w : World} {v v' : Value} {ps : List (Int × Int)} (h : Prc w w.heap.size v ps) (h' : Prc w w.heap.size v' ps) (hn : ps.length ≤ 1000) : ∀ W, Below w.heap.size w W →
    Calls Tryd.prog 14 #[v, v'] W fun e w' => e = .returned (.bool true) ∧ Below W.heap.size W w' := fun W hW => by
  have k := prc_on h hW
  have k' := prc_on h' hW
  by_cases h0 : ps.length = 0
  · obtain rfl : ps = [] := List.length_eq_zero_iff.1 h0
    obtain ⟨a, c, rfl⟩ := prc_slice k
    obtain ⟨a', c', rfl⟩ := prc_slice k'
    exact sameU_nil _ _ _ _ _
  · rcases k with ⟨_, rfl⟩ | ⟨_, _, _, _, rfl⟩ | ⟨b, off, cap, rfl, _, _, _, hb, hc⟩
    · exact absurd rfl h0
    · exact absurd rfl h0
    · rcases k' with ⟨_, rfl⟩ | ⟨_, _, _, _, rfl⟩ | ⟨b', off', cap', rfl, _, _, _, hb', hc'⟩
      · exact absurd rfl h0
      · exact absurd rfl h0
      · exact sameU_row b off b' off' cap cap' ps W hb hb' hn hc hc'
end Go.Proofs.YtccjfmhbmieigaaDoor
