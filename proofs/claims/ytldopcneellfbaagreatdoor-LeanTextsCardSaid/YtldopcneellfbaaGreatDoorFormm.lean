/- A text that is read as a survey is that survey's text. -/
import Derived.Test.YtldopcneellfbaaGreatDoorJoinw
import Derived.Test.YtldopcneellfbaaGreatDoorParsem
import Derived.Test.YtldopcneellfbaaGreatDoorFmtr
namespace Go.Proofs.YtldopcneellfbaaGreatDoor
open Go.RowKit

theorem whole_lines {ls : List (List UInt8)} {k : Nat} {f : Nat → Nat → Int} (h : Whole ls k f) : ls = (List.range k).map (fun i => joinW 32 (threeW (f i 0) (f i 1) (f i 2))) ++ [[]] := by
  obtain ⟨h1, h2, h3, h4⟩ := h
  apply List.ext_getElem?
  intro i
  rcases Nat.lt_trichotomy i k with hi | hi | hi
  · obtain ⟨_, t, ht, hw⟩ := h1.2 i hi
    rw [ht, List.getElem?_append_left (by simpa using hi), List.getElem?_map, List.getElem?_range hi, Option.map_some, ← hw, words_back 32 _ t (Nat.le_refl _)]
  · subst hi
    rw [h4, List.getElem?_append_right (by simp)]
    simp
  · rw [List.getElem?_eq_none (by omega), List.getElem?_eq_none (by simp; omega)]
theorem whole_form {s : List UInt8} {k : Nat} {f : Nat → Nat → Int} (h : Whole (wordsL 10 s) k f) : s = formL k f := by
  have e := words_back 10 _ s (Nat.le_refl _)
  rw [whole_lines h, joinW_end] at e
  rw [← e]
  unfold formL
  rw [List.flatMap_map]
  congr 1
  funext i
  simp [threeW, joinW, lineL]
end Go.Proofs.YtldopcneellfbaaGreatDoor
