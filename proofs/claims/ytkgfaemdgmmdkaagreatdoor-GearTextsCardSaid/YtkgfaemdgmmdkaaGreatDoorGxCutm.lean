/- strings.Cut and strings.Split at one byte, in the words of the reference's Words. -/
import Derived.Test.YtkgfaemdgmmdkaaGreatDoorGxWords
import Derived.Lib.CutLaws
import Derived.Lib.SplitLaws
import Derived.Lib.IndexLaws
import Derived.Lib.IndexBytes
namespace Go.Proofs.YtkgfaemdgmmdkaaGreatDoor.Gx
open Go.Proofs.YtkgfaemdgmmdkaaGreatDoor
open Go.RowKit

theorem cutW_miss (m : UInt8) : ∀ s : List UInt8, Lib.indexByte s m = -1 → cutW m s = ([], s)
  | [], _ => rfl
  | b :: l, h => by
    unfold Lib.indexByte at h
    by_cases hb : b = m
    · simp [hb] at h
    · have h1 : (b == m) = false := beq_eq_false_iff_ne.2 hb
      have hg := Lib.indexByte_ge l m
      rw [h1] at h
      by_cases hl : Lib.indexByte l m = -1
      · have ih := cutW_miss m l hl
        simp only [cutW, if_neg hb, ih]
      · have h2 : (Lib.indexByte l m == -1) = false := beq_eq_false_iff_ne.2 hl
        simp [h2] at h
        omega
theorem cutW_hit (m : UInt8) : ∀ (s : List UInt8) (i : Nat), Lib.indexByte s m = i → cutW m s = (s.take i :: (cutW m (s.drop (i + 1))).1, (cutW m (s.drop (i + 1))).2)
  | [], i, h => by simp [Lib.indexByte] at h
  | b :: l, i, h => by
    unfold Lib.indexByte at h
    by_cases hb : b = m
    · simp [hb] at h
      obtain rfl : i = 0 := by omega
      simp [cutW, hb]
    · have h1 : (b == m) = false := beq_eq_false_iff_ne.2 hb
      have hg := Lib.indexByte_ge l m
      rw [h1] at h
      by_cases hl : Lib.indexByte l m = -1
      · simp [hl] at h
      · have h2 : (Lib.indexByte l m == -1) = false := beq_eq_false_iff_ne.2 hl
        simp [h2] at h
        obtain ⟨j, rfl⟩ : ∃ j, i = j + 1 := ⟨i - 1, by omega⟩
        have ih := cutW_hit m l j (by omega)
        simp only [cutW, if_neg hb, ih]
        simp
theorem words_miss {m : UInt8} {s : List UInt8} (h : Lib.indexByte s m = -1) : wordsL m s = [s] := by simp [wordsL, cutW_miss m s h]
theorem words_hit {m : UInt8} {s : List UInt8} {i : Nat} (h : Lib.indexByte s m = i) : wordsL m s = s.take i :: wordsL m (s.drop (i + 1)) := by simp [wordsL, cutW_hit m s i h]
/-- Either there is no mark, or the first word is cut off. -/
theorem cut_words (m : UInt8) (s : List UInt8) : (Lib.cut s [m] = (s, [], false) ∧ wordsL m s = [s]) ∨ ∃ a b, Lib.cut s [m] = (a, b, true) ∧ wordsL m s = a :: wordsL m b ∧ a.length + b.length + 1 = s.length := by
  have hg := Lib.indexByte_ge s m
  unfold Lib.cut
  rw [Lib.index_one]
  by_cases h : Lib.indexByte s m = -1
  · exact .inl ⟨by rw [h]; rfl, words_miss h⟩
  · obtain ⟨i, hi⟩ : ∃ i : Nat, Lib.indexByte s m = i := ⟨(Lib.indexByte s m).toNat, by omega⟩
    have hlt := (List.getElem?_eq_some_iff.1 (Lib.indexByte_some hi).1).1
    refine .inr ⟨s.take i, s.drop (i + 1), ?_, words_hit hi, by simp; omega⟩
    rw [if_pos (by omega), hi]
    rfl
theorem splitK_words (m : UInt8) : ∀ (k : Nat) (s : List UInt8), s.count m = k → Lib.splitK [m] 0 k s = wordsL m s
  | 0, s, h => by
    have hn : Lib.indexByte s m = -1 := by
      by_cases hx : Lib.indexByte s m = -1
      · exact hx
      · have hg := Lib.indexByte_ge s m
        obtain ⟨i, hi⟩ : ∃ i : Nat, Lib.indexByte s m = i := ⟨(Lib.indexByte s m).toNat, by omega⟩
        exact absurd (List.mem_of_getElem? (Lib.indexByte_some hi).1) (List.count_eq_zero.1 h)
    rw [words_miss hn]
    rfl
  | k + 1, s, h => by
    have hg := Lib.indexByte_ge s m
    have hx : Lib.indexByte s m ≠ -1 := fun hx => by
      have : m ∉ s := fun hm => by
        obtain ⟨j, hj⟩ := List.mem_iff_getElem?.1 hm
        exact Lib.indexByte_none hx j hj
      rw [List.count_eq_zero.2 this] at h
      omega
    obtain ⟨i, hi⟩ : ∃ i : Nat, Lib.indexByte s m = i := ⟨(Lib.indexByte s m).toNat, by omega⟩
    have hsm := Lib.indexByte_some hi
    have hlt := (List.getElem?_eq_some_iff.1 hsm.1).1
    have hsp : s = s.take i ++ m :: s.drop (i + 1) := by
      conv => lhs; rw [← List.take_append_drop i s, List.drop_eq_getElem_cons hlt]
      rw [(List.getElem?_eq_some_iff.1 hsm.1).2]
    have hc : (s.drop (i + 1)).count m = k := by
      have h0 : (s.take i).count m = 0 := List.count_eq_zero.2 fun hm => by
        obtain ⟨j, hj⟩ := List.mem_iff_getElem?.1 hm
        have hjl := (List.getElem?_eq_some_iff.1 hj).1
        rw [List.length_take] at hjl
        rw [List.getElem?_take_of_lt (by omega)] at hj
        exact hsm.2 j (by omega) hj
      rw [hsp, List.count_append, h0, List.count_cons_self] at h
      omega
    have hne : (Lib.indexByte s m == -1) = false := beq_eq_false_iff_ne.2 hx
    rw [words_hit hi]
    unfold Lib.splitK
    rw [Lib.index_one, hne, hi]
    simp only [Int.toNat_natCast, Nat.add_zero, List.length_cons, List.length_nil]
    rw [← splitK_words m k _ hc]
    simp
end Go.Proofs.YtkgfaemdgmmdkaaGreatDoor.Gx
