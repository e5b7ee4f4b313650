/- A text of uses line by line, as mathematics: what a further line says behind the lines that were good. -/
import Derived.Test.YtccjfmhbmieigaaDoorTwod
import Derived.Test.YtccjfmhbmieigaaDoorLns
namespace Go.Proofs.YtccjfmhbmieigaaDoor
open Go.RowKit Ro

theorem words_behind (ps : List (Int × Int)) (y : List UInt8) : wordsL 10 (formU ps ++ y) = ps.map useL ++ wordsL 10 y := by
  induction ps with
  | nil => simp [formU]
  | cons p r ih =>
    have e : formU (p :: r) ++ y = useL p ++ 10 :: (formU r ++ y) := by simp [formU]
    rw [e, words_app 10 _ _ (use_no p), ih]
    rfl
theorem pu_behind {ps : List (Int × Int)} (h : GoodU ps) (ws : List (List UInt8)) : PU (ps.map useL ++ ws) ps := by
  refine ⟨h, fun i p hi => ?_⟩
  have hl := (List.getElem?_eq_some_iff.1 hi).1
  rw [List.getElem?_append_left (by simpa using hl), List.getElem?_map, hi, Option.map_some]
theorem wordsL_pos (m : UInt8) (s : List UInt8) : 1 ≤ (wordsL m s).length := by simp [wordsL]
/-- A line that is no use's, or whose use does not follow, ends the reading. -/
theorem line_bad {s x : List UInt8} {pre : List (List UInt8)} {ps : List (Int × Int)} (hp : pre.flatten = formU ps) (hG : GoodU ps) (hx : nxL s pre x) (hb : ∀ q, In2 q → x = useL q ++ [10] → ¬ GoodU (ps ++ [q])) : StopsU (wordsL 10 s) ps.length := by
  obtain ⟨r, hs, ⟨y, rfl, hy⟩ | ⟨hn, hy, rfl⟩⟩ := hx
  · have e : wordsL 10 s = ps.map useL ++ y :: wordsL 10 r := by
      rw [hs, hp, words_behind, List.append_assoc, List.singleton_append, words_app 10 y r hy]
    rw [e]
    refine ⟨ps, pu_behind hG _, rfl, .inl ⟨?_, fun t p ht hp2 hg => ?_⟩⟩
    · have := wordsL_pos 10 r
      simp; omega
    · rw [List.getElem?_append_right (by simp)] at ht
      simp at ht
      have hq : In2 p := goodU_in2 hg (i := ps.length) (by simp)
      exact hb p hq (by rw [ht, hp2]) hg
  · have e : wordsL 10 s = ps.map useL ++ [x] := by
      rw [hs, hp, words_behind, List.append_nil, words_one 10 x hy]
    rw [e]
    refine ⟨ps, pu_behind hG _, rfl, .inr ⟨by simp, ?_⟩⟩
    rw [List.getElem?_append_right (by simp)]
    simpa using hn
/-- A line that is a use's goes on. -/
theorem line_good {pre : List (List UInt8)} {ps : List (Int × Int)} {q : Int × Int} (hp : pre.flatten = formU ps) : (pre ++ [useL q ++ [10]]).flatten = formU (ps ++ [q]) := by
  rw [List.flatten_append, hp, formU_snoc]
  simp
theorem lines_done {s : List UInt8} {xs : List (List UInt8)} {ps : List (Int × Int)} (hs : s = xs.flatten) (hp : xs.flatten = formU ps) (hG : GoodU ps) : WholeU (wordsL 10 s) ps := by
  rw [hs, hp]
  exact formU_whole hG
end Go.Proofs.YtccjfmhbmieigaaDoor
