/- A survey's text is read as that survey. -/
import Derived.Test.YtldopcneellfbaaGreatDoorFormm
namespace Go.Proofs.YtldopcneellfbaaGreatDoor
open Go.RowKit

theorem index_app (m : UInt8) : ∀ (x r : List UInt8), m ∉ x → Lib.indexByte (x ++ m :: r) m = x.length
  | [], r, _ => by simp [Lib.indexByte]
  | c :: x, r, h => by
    have hc : (c == m) = false := beq_eq_false_iff_ne.2 fun e => h (by simp [e])
    have ih := index_app m x r fun hm => h (by simp [hm])
    have hne : ((x.length : Int) == -1) = false := beq_eq_false_iff_ne.2 (by omega)
    rw [List.cons_append]
    unfold Lib.indexByte
    rw [hc, ih, hne]
    simp
theorem index_no (m : UInt8) : ∀ (x : List UInt8), m ∉ x → Lib.indexByte x m = -1
  | [], _ => rfl
  | c :: x, h => by
    have hc : (c == m) = false := beq_eq_false_iff_ne.2 fun e => h (by simp [e])
    unfold Lib.indexByte
    rw [hc, index_no m x fun hm => h (by simp [hm])]
    rfl
theorem words_app (m : UInt8) (x r : List UInt8) (h : m ∉ x) : wordsL m (x ++ m :: r) = x :: wordsL m r := by
  rw [words_hit (index_app m x r h)]
  simp
theorem words_one (m : UInt8) (x : List UInt8) (h : m ∉ x) : wordsL m x = [x] := words_miss (index_no m x h)
theorem itoa_chars (n : Int) : ∀ c ∈ Lib.itoa n, c = 45 ∨ dgt c := by
  intro c hc
  unfold Lib.itoa at hc
  split at hc
  · rcases List.mem_cons.1 hc with rfl | h
    · exact .inl rfl
    · exact .inr (dec_dgt _ c h)
  · exact .inr (dec_dgt _ c hc)
theorem itoa_no (n : Int) {m : UInt8} (h : m.toNat < 45) : m ∉ Lib.itoa n := fun hm => by
  rcases itoa_chars n m hm with rfl | hd
  · exact absurd h (by decide)
  · unfold dgt at hd; omega
theorem words_three (a b c : Int) : wordsL 32 (joinW 32 (threeW a b c)) = threeW a b c := by
  unfold threeW joinW joinW joinW
  rw [words_app 32 _ _ (itoa_no a (by decide)), words_app 32 _ _ (itoa_no b (by decide)), words_one 32 _ (itoa_no c (by decide))]
theorem three_no (a b c : Int) : (10 : UInt8) ∉ joinW 32 (threeW a b c) := by
  unfold threeW joinW joinW joinW
  have ha := itoa_no a (m := 10) (by decide)
  have hb := itoa_no b (m := 10) (by decide)
  have hc := itoa_no c (m := 10) (by decide)
  simp [ha, hb, hc]
theorem words_lines : ∀ (xs : List (List UInt8)), (∀ x ∈ xs, (10 : UInt8) ∉ x) → wordsL 10 (xs.flatMap fun x => x ++ [10]) = xs ++ [[]]
  | [], _ => rfl
  | x :: r, h => by
    have e : ((x :: r).flatMap fun x => x ++ [10]) = x ++ 10 :: (r.flatMap fun x => x ++ [10]) := by simp
    rw [e, words_app 10 x _ (h x (by simp)), words_lines r fun y hy => h y (by simp [hy])]
    rfl
theorem form_lines (k : Nat) (f : Nat → Nat → Int) : wordsL 10 (formL k f) = (List.range k).map (fun i => joinW 32 (threeW (f i 0) (f i 1) (f i 2))) ++ [[]] := by
  rw [← words_lines _ (fun x hx => by obtain ⟨i, _, rfl⟩ := List.mem_map.1 hx; exact three_no _ _ _)]
  unfold formL
  rw [List.flatMap_map]
  congr 2
  funext i
  simp [threeW, joinW, lineL]
theorem form_whole {k : Nat} {f : Nat → Nat → Int} (h : GoodM k f) : Whole (wordsL 10 (formL k f)) k f := by
  obtain ⟨h1, h2, h3⟩ := h
  rw [form_lines]
  refine ⟨⟨h2, fun i hi => ⟨h3 i hi, joinW 32 (threeW (f i 0) (f i 1) (f i 2)), ?_, words_three _ _ _⟩⟩, by simp, h1, ?_⟩
  · rw [List.getElem?_append_left (by simpa using hi), List.getElem?_map, List.getElem?_range hi, Option.map_some]
  · rw [List.getElem?_append_right (by simp)]; simp
end Go.Proofs.YtldopcneellfbaaGreatDoor
