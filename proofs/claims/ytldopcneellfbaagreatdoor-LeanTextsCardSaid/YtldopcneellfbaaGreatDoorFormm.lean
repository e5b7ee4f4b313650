/- A text that is read as a survey is that survey's text. -/
import Derived.Test.YtldopcneellfbaaGreatDoorCutm
import Derived.Test.YtldopcneellfbaaGreatDoorParsem
import Derived.Test.YtldopcneellfbaaGreatDoorFmtr
namespace Go.Proofs.YtldopcneellfbaaGreatDoor
open Go.RowKit

/-- Words put together again. -/
def joinW (m : UInt8) : List (List UInt8) → List UInt8
  | [] => []
  | [x] => x
  | x :: y :: r => x ++ m :: joinW m (y :: r)
theorem joinW_cons (m : UInt8) (x : List UInt8) {ws : List (List UInt8)} (h : 1 ≤ ws.length) : joinW m (x :: ws) = x ++ m :: joinW m ws := by
  match ws, h with
  | y :: r, _ => rfl
theorem words_back (m : UInt8) : ∀ (n : Nat) (s : List UInt8), s.length ≤ n → joinW m (wordsL m s) = s
  | n, s, hn => by
    have hg := Lib.indexByte_ge s m
    by_cases h : Lib.indexByte s m = -1
    · rw [words_miss h]; rfl
    · obtain ⟨i, hi⟩ : ∃ i : Nat, Lib.indexByte s m = i := ⟨(Lib.indexByte s m).toNat, by omega⟩
      have hsm := Lib.indexByte_some hi
      have hlt := (List.getElem?_eq_some_iff.1 hsm.1).1
      have hsp : s = s.take i ++ m :: s.drop (i + 1) := by
        conv => lhs; rw [← List.take_append_drop i s, List.drop_eq_getElem_cons hlt]
        rw [(List.getElem?_eq_some_iff.1 hsm.1).2]
      match n with
      | 0 => omega
      | n + 1 =>
        rw [words_hit hi, joinW_cons m _ (by simp [wordsL]), words_back m n (s.drop (i + 1)) (by simp; omega)]
        exact hsp.symm
theorem joinW_end (m : UInt8) : ∀ xs : List (List UInt8), joinW m (xs ++ [[]]) = xs.flatMap fun x => x ++ [m]
  | [] => rfl
  | x :: r => by
    rw [List.cons_append, joinW_cons m x (by simp), joinW_end m r]
    simp
theorem whole_lines {ls : List (List UInt8)} {k : Nat} {f : Nat → Nat → Int} (h : Whole ls k f) : ls = (List.range k).map (fun i => joinW 32 (threeW (f i 0) (f i 1) (f i 2))) ++ [[]] := by
  obtain ⟨h1, h2, h3, h4⟩ := h
  apply List.ext_getElem?
  intro i
  rcases Nat.lt_trichotomy i k with hi | hi | hi
  · obtain ⟨_, t, ht, hw⟩ := h1.2 i hi
    rw [ht, List.getElem?_append_left (by simpa using hi), List.getElem?_map, List.getElem?_range hi, Option.map_some, ← hw, words_back 32 _ t (Nat.le_refl _)]
  · subst hi
    rw [h4, List.getElem?_append_right (by simp)]
    simp
  · rw [List.getElem?_eq_none (by omega), List.getElem?_eq_none (by simp; omega)]
theorem whole_form {s : List UInt8} {k : Nat} {f : Nat → Nat → Int} (h : Whole (wordsL 10 s) k f) : s = formL k f := by
  have e := words_back 10 _ s (Nat.le_refl _)
  rw [whole_lines h, joinW_end] at e
  rw [← e]
  unfold formL
  rw [List.flatMap_map]
  congr 1
  funext i
  simp [threeW, joinW, lineL]
end Go.Proofs.YtldopcneellfbaaGreatDoor
