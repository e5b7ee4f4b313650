/- Words of a text, and a text of words. -/
import Derived.Test.YtkgfaemdgmmdkaaGreatDoorGxCutm
import Derived.Test.YtkgfaemdgmmdkaaGreatDoorGxNumt
namespace Go.Proofs.YtkgfaemdgmmdkaaGreatDoor.Gx
open Go.Proofs.YtkgfaemdgmmdkaaGreatDoor
open Go.RowKit

/-- Words put together again. -/
def joinW (m : UInt8) : List (List UInt8) → List UInt8
  | [] => []
  | [x] => x
  | x :: y :: r => x ++ m :: joinW m (y :: r)
theorem joinW_cons (m : UInt8) (x : List UInt8) {ws : List (List UInt8)} (h : 1 ≤ ws.length) : joinW m (x :: ws) = x ++ m :: joinW m ws := by
  match ws, h with
  | y :: r, _ => rfl
theorem words_back (m : UInt8) : ∀ (n : Nat) (s : List UInt8), s.length ≤ n → joinW m (wordsL m s) = s
  | n, s, hn => by
    have hg := Lib.indexByte_ge s m
    by_cases h : Lib.indexByte s m = -1
    · rw [words_miss h]; rfl
    · obtain ⟨i, hi⟩ : ∃ i : Nat, Lib.indexByte s m = i := ⟨(Lib.indexByte s m).toNat, by omega⟩
      have hsm := Lib.indexByte_some hi
      have hlt := (List.getElem?_eq_some_iff.1 hsm.1).1
      have hsp : s = s.take i ++ m :: s.drop (i + 1) := by
        conv => lhs; rw [← List.take_append_drop i s, List.drop_eq_getElem_cons hlt]
        rw [(List.getElem?_eq_some_iff.1 hsm.1).2]
      match n with
      | 0 => omega
      | n + 1 =>
        rw [words_hit hi, joinW_cons m _ (by simp [wordsL]), words_back m n (s.drop (i + 1)) (by simp; omega)]
        exact hsp.symm
theorem joinW_end (m : UInt8) : ∀ xs : List (List UInt8), joinW m (xs ++ [[]]) = xs.flatMap fun x => x ++ [m]
  | [] => rfl
  | x :: r => by
    rw [List.cons_append, joinW_cons m x (by simp), joinW_end m r]
    simp
theorem index_app (m : UInt8) : ∀ (x r : List UInt8), m ∉ x → Lib.indexByte (x ++ m :: r) m = x.length
  | [], r, _ => by simp [Lib.indexByte]
  | c :: x, r, h => by
    have hc : (c == m) = false := beq_eq_false_iff_ne.2 fun e => h (by simp [e])
    have ih := index_app m x r fun hm => h (by simp [hm])
    have hne : ((x.length : Int) == -1) = false := beq_eq_false_iff_ne.2 (by omega)
    rw [List.cons_append]
    unfold Lib.indexByte
    rw [hc, ih, hne]
    simp
theorem index_no (m : UInt8) : ∀ (x : List UInt8), m ∉ x → Lib.indexByte x m = -1
  | [], _ => rfl
  | c :: x, h => by
    have hc : (c == m) = false := beq_eq_false_iff_ne.2 fun e => h (by simp [e])
    unfold Lib.indexByte
    rw [hc, index_no m x fun hm => h (by simp [hm])]
    rfl
theorem words_app (m : UInt8) (x r : List UInt8) (h : m ∉ x) : wordsL m (x ++ m :: r) = x :: wordsL m r := by
  rw [words_hit (index_app m x r h)]
  simp
theorem words_one (m : UInt8) (x : List UInt8) (h : m ∉ x) : wordsL m x = [x] := words_miss (index_no m x h)
theorem itoa_chars (n : Int) : ∀ c ∈ Lib.itoa n, c = 45 ∨ dgt c := by
  intro c hc
  unfold Lib.itoa at hc
  split at hc
  · rcases List.mem_cons.1 hc with rfl | h
    · exact .inl rfl
    · exact .inr (dec_dgt _ c h)
  · exact .inr (dec_dgt _ c hc)
theorem itoa_no (n : Int) {m : UInt8} (h : m.toNat < 45) : m ∉ Lib.itoa n := fun hm => by
  rcases itoa_chars n m hm with rfl | hd
  · exact absurd h (by decide)
  · unfold dgt at hd; omega
theorem words_lines : ∀ (xs : List (List UInt8)), (∀ x ∈ xs, (10 : UInt8) ∉ x) → wordsL 10 (xs.flatMap fun x => x ++ [10]) = xs ++ [[]]
  | [], _ => rfl
  | x :: r, h => by
    have e : ((x :: r).flatMap fun x => x ++ [10]) = x ++ 10 :: (r.flatMap fun x => x ++ [10]) := by simp
    rw [e, words_app 10 x _ (h x (by simp)), words_lines r fun y hy => h y (by simp [hy])]
    rfl
end Go.Proofs.YtkgfaemdgmmdkaaGreatDoor.Gx
