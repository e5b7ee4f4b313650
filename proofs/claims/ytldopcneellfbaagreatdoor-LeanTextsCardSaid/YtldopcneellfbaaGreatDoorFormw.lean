/- A survey's text is read as that survey. -/
import Derived.Test.YtldopcneellfbaaGreatDoorFormm
namespace Go.Proofs.YtldopcneellfbaaGreatDoor
open Go.RowKit

theorem words_three (a b c : Int) : wordsL 32 (joinW 32 (threeW a b c)) = threeW a b c := by
  unfold threeW joinW joinW joinW
  rw [words_app 32 _ _ (itoa_no a (by decide)), words_app 32 _ _ (itoa_no b (by decide)), words_one 32 _ (itoa_no c (by decide))]
theorem three_no (a b c : Int) : (10 : UInt8) ∉ joinW 32 (threeW a b c) := by
  unfold threeW joinW joinW joinW
  have ha := itoa_no a (m := 10) (by decide)
  have hb := itoa_no b (m := 10) (by decide)
  have hc := itoa_no c (m := 10) (by decide)
  simp [ha, hb, hc]
theorem form_lines (k : Nat) (f : Nat → Nat → Int) : wordsL 10 (formL k f) = (List.range k).map (fun i => joinW 32 (threeW (f i 0) (f i 1) (f i 2))) ++ [[]] := by
  rw [← words_lines _ (fun x hx => by obtain ⟨i, _, rfl⟩ := List.mem_map.1 hx; exact three_no _ _ _)]
  unfold formL
  rw [List.flatMap_map]
  congr 2
  funext i
  simp [threeW, joinW, lineL]
theorem form_whole {k : Nat} {f : Nat → Nat → Int} (h : GoodM k f) : Whole (wordsL 10 (formL k f)) k f := by
  obtain ⟨h1, h2, h3⟩ := h
  rw [form_lines]
  refine ⟨⟨h2, fun i hi => ⟨h3 i hi, joinW 32 (threeW (f i 0) (f i 1) (f i 2)), ?_, words_three _ _ _⟩⟩, by simp, h1, ?_⟩
  · rw [List.getElem?_append_left (by simpa using hi), List.getElem?_map, List.getElem?_range hi, Option.map_some]
  · rw [List.getElem?_append_right (by simp)]; simp
end Go.Proofs.YtldopcneellfbaaGreatDoor
