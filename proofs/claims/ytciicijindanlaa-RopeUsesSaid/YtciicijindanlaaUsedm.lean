/- Plain mathematics of Used; the reference's Same. -/
import Derived.Test.YtciicijindanlaaWrong
import Derived.Test.YtciicijindanlaaGrow
namespace Go.Proofs.Ytciicijindanlaa
open Go.RowKit
attribute [local go_sem] After.cell After.frozen After.lt After.le After.ne After.ne' After.set_eq After.size_set After.lt_add

def uE (s d l : Int) (ps : List (Int × Int)) (day n : Int) : Int :=
  if erN s d l ps day n = 0 then if day < lastN ps ps.length then 10 else if ps.length = 500 then 4 else if mayB s l (lft s d day ps) n then 0 else 8 else erN s d l ps day n
def uL (s d l : Int) (ps : List (Int × Int)) (day n : Int) : List (Int × Int) := if uE s d l ps day n = 0 then ps ++ [(day, n)] else []
/-- What Used answers. -/
abbrev UsedAns (W : World) (s d l : Int) (ps : List (Int × Int)) (day n : Int) : Ending → World → Prop := fun e w' => ∃ v, e = .returned (.tuple #[v, .int .i64 (uE s d l ps day n)]) ∧ w'.ownsRow W.heap.size 73 2 v (uL s d l ps day n).length (pcv (uL s d l ps day n)) ∧ Below W.heap.size W w'
theorem uL_none {s d l : Int} {ps : List (Int × Int)} {day n : Int} (h : uE s d l ps day n ≠ 0) : uL s d l ps day n = [] := by unfold uL; rw [if_neg h]
theorem uE_cases (s d l : Int) (ps : List (Int × Int)) (day n : Int) :
    (erN s d l ps day n ≠ 0 ∧ uE s d l ps day n = erN s d l ps day n) ∨ erN s d l ps day n = 0 ∧ GoodW s d l ps ∧ Dy day ∧ Ld n ∧
      ((day < lastN ps ps.length ∧ uE s d l ps day n = 10) ∨ (¬ day < lastN ps ps.length ∧ ps.length = 500 ∧ uE s d l ps day n = 4) ∨ (¬ day < lastN ps ps.length ∧ ps.length ≠ 500 ∧ mayB s l (lft s d day ps) n = false ∧ uE s d l ps day n = 8) ∨
        (¬ day < lastN ps ps.length ∧ ps.length ≠ 500 ∧ mayB s l (lft s d day ps) n = true ∧ uE s d l ps day n = 0)) := by
  rcases erN_cases s d l ps day n with ⟨e, hG, hD, hn⟩ | e | e
  · right
    refine ⟨e, hG, hD, hn, ?_⟩
    unfold uE
    rw [if_pos e]
    by_cases h1 : day < lastN ps ps.length
    · rw [if_pos h1]; exact .inl ⟨h1, rfl⟩
    · rw [if_neg h1]
      by_cases h2 : ps.length = 500
      · rw [if_pos h2]; exact .inr (.inl ⟨h1, h2, rfl⟩)
      · rw [if_neg h2]
        cases h3 : mayB s l (lft s d day ps) n
        · exact .inr (.inr (.inl ⟨h1, h2, rfl, rfl⟩))
        · exact .inr (.inr (.inr ⟨h1, h2, rfl, rfl⟩))
  all_goals
    left
    refine ⟨by omega, ?_⟩
    unfold uE
    rw [if_neg (by omega)]

/-- Uses of which none is wrong. -/
def NoneWrong (s d l : Int) (A : List (Int × Int)) : Prop := GoodU A ∧ ∀ j, j < A.length → wrB s d l A j = false
theorem noneWrong_nil (s d l : Int) : NoneWrong s d l [] := ⟨by decide, fun j h => absurd h (by simp)⟩
theorem usAt_app {A : List (Int × Int)} {j : Nat} (h : j < A.length) (p : Int × Int) : usAt (A ++ [p]) j = usAt A j := by
  unfold usAt; simp [List.getD_eq_getElem?_getD, List.getElem?_append_left h]
theorem usAt_last (A : List (Int × Int)) (p : Int × Int) : usAt (A ++ [p]) A.length = p := by
  unfold usAt; simp [List.getD_eq_getElem?_getD]
theorem noneWrong_snoc {s d l : Int} {A : List (Int × Int)} {day n : Int} (h : NoneWrong s d l A) (hu : uE s d l A day n = 0) : NoneWrong s d l (A ++ [(day, n)]) := by
  rcases uE_cases s d l A day n with ⟨h1, h2⟩ | ⟨_, hG, hD, hn, ⟨_, h2⟩ | ⟨_, _, h2⟩ | ⟨_, _, _, h2⟩ | ⟨h1, h2, h3, _⟩⟩
  · omega
  · omega
  · omega
  · omega
  · obtain ⟨⟨g1, g2⟩, g3⟩ := h
    refine ⟨⟨by simp; omega, fun k hk => ?_⟩, fun j hj => ?_⟩
    · have hk' : k ≤ A.length := by simp at hk; omega
      unfold OkU
      rcases Nat.lt_or_ge k A.length with h | h
      · have := g2 k h
        unfold OkU at this
        rw [usAt_app h, usAt_app (by omega)]
        exact this
      · obtain rfl : k = A.length := by omega
        rw [usAt_last]
        refine ⟨hD, hn, fun h0 => ?_⟩
        rw [usAt_app (by omega)]
        unfold lastN at h1
        rw [if_neg (by omega)] at h1
        show _ ≤ day
        omega
    · have hj' : j ≤ A.length := by simp at hj; omega
      unfold wrB
      rw [List.take_append_of_le_length hj']
      rcases Nat.lt_or_ge j A.length with h | h
      · rw [usAt_app h]; exact g3 j h
      · obtain rfl : j = A.length := by omega
        rw [usAt_last, List.take_length]
        simp [h3]
theorem noneWrong_wrL {s d l : Int} {A : List (Int × Int)} (h : NoneWrong s d l A) : wrL s d l A A.length = [] := by
  unfold wrL
  rw [List.filter_eq_nil_iff]
  intro j hj
  rw [h.2 j (by simpa using hj)]
  simp

theorem prc_owns {W : World} {base : Nat} {t : TypeId} {v : Value} {ps : List (Int × Int)} (h : W.ownsRow base t 2 v ps.length (pcv ps)) : Prc W W.heap.size v ps := by
  rcases Nat.eq_zero_or_pos ps.length with h0 | h0
  · obtain rfl : ps = [] := List.length_eq_zero_iff.1 h0
    rcases h.2 with ⟨e, _⟩ | ⟨g, cap, _, e, _, _, _, h1, _⟩
    · exact .inl ⟨e, rfl⟩
    · exact .inr (.inl ⟨_, cap, e, by unfold maxLen at h1; exact h1, rfl⟩)
  · exact prc_own h h0

set_option maxHeartbeats 400000 in
theorem sameU_nil (a a' : Option Addr) (c c' : Nat) (w : World) :
    Calls Try.prog 57 #[.slice a 0 c, .slice a' 0 c'] w fun e w' => e = .returned (.bool true) ∧ Below w.heap.size w w' := by
  go_enter Try.func57, Try.ntmps57
  go_wp2
  go_loopw [5] (fun i wr => i = .int .i64 0 ∧ ∃ x : After w, wr = x.w) (fun _ _ => 0)
  case atStart => exact ⟨rfl, ⟨w, Below.refl _ _⟩, rfl⟩
  case round =>
    obtain ⟨rfl, x, rfl⟩ := hrel
    go_wp2
    go_ret
    exact ⟨rfl, by (repeat' (first | (with_reducible exact Below.refl _ _) | (with_reducible assumption) | (with_reducible refine Below.alloc ?_ ?_ _) | (with_reducible refine Below.drew ?_) | (with_reducible refine below_drewN ?_ _) | (with_reducible refine Below.setCell ?_ ?_ _) | (with_reducible refine below_after ?_ ?_ _) | (with_reducible refine below_set ?_) | (with_reducible refine After.size_le _ ?_) | (with_reducible refine size_alloc_le ?_) | (with_reducible refine size_set_le ?_) | (with_reducible refine size_drewN_le ?_) | go_size))⟩

theorem neq_use (a b : Int) (w : World) : (binOp .neq 73 (.agg #[.int .i64 a, .int .i64 b]) (.agg #[.int .i64 a, .int .i64 b])).run Try.prog w = .ok (.bool false) w := by
  rw [run_neq_struct]
  go_simp
attribute [local go_sem 10000] neq_use

set_option maxRecDepth 100000 in
set_option maxHeartbeats 1000000 in
theorem sameU_row (b off b' off' c c' : Nat) (ps : List (Int × Int)) (w : World) (hb : b < w.heap.size) (hb' : b' < w.heap.size) (hn : ps.length ≤ 1000) (hc : PrCells w b off ps) (hc' : PrCells w b' off' ps) :
    Calls Try.prog 57 #[.slice (some ⟨b, off, none⟩) ps.length c, .slice (some ⟨b', off', none⟩) ps.length c'] w fun e w' => e = .returned (.bool true) ∧ Below w.heap.size w w' := by
  have HC := Lib.hid hc
  have HC' := Lib.hid hc'
  clear hc hc'
  go_enter Try.func57, Try.ntmps57
  go_wp2
  go_loopw [5] (fun i wr => ∃ k : Nat, k ≤ ps.length ∧ i = .int .i64 k ∧ ∃ x : After w, wr = x.w) (fun i _ => ps.length - (intOf i).toNat)
  case atStart => exact ⟨0, by omega, rfl, ⟨w, Below.refl _ _⟩, rfl⟩
  case round =>
    obtain ⟨k, hk, rfl, x, rfl⟩ := hrel
    by_cases hlt : k < ps.length
    · obtain ⟨c1, c2⟩ := HC.out k hlt
      obtain ⟨c3, c4⟩ := HC'.out k hlt
      generalize ps.getD k (0, 0) = p at *
      obtain ⟨hh, vv⟩ := p
      dsimp only at *
      go_wp2
      refine wp_region_after (by kernel_rfl) (by kernel_rfl) ?_; (repeat (first | go_big_quiet_step ((fail)) | (refine wpQuiet_step (fun K hK => ?_); go_simp; first | (refine hK _ ?_; clear hK K) | (apply Exists.intro; refine ⟨fun x => ?_, hK _ ?_⟩; (fail); clear hK K)))); refine wpQuiet_nil ?_
      intro y
      go_wp2
      go_roundw
      case rel => exact ⟨k + 1, by omega, by go_num, ⟨_, x.out.trans (y.out.mono x.out.size)⟩, rfl⟩
      case measure => simp [intOf]; omega
    · obtain rfl : k = ps.length := by omega
      go_wp2
      go_ret
      exact ⟨rfl, by (repeat' (first | (with_reducible exact Below.refl _ _) | (with_reducible assumption) | (with_reducible refine Below.alloc ?_ ?_ _) | (with_reducible refine Below.drew ?_) | (with_reducible refine below_drewN ?_ _) | (with_reducible refine Below.setCell ?_ ?_ _) | (with_reducible refine below_after ?_ ?_ _) | (with_reducible refine below_set ?_) | (with_reducible refine After.size_le _ ?_) | (with_reducible refine size_alloc_le ?_) | (with_reducible refine size_set_le ?_) | (with_reducible refine size_drewN_le ?_) | go_size))⟩
theorem sameU_own {W : World} {B B' : Nat} {v v' : Value} {L : List (Int × Int)} (hL : L.length ≤ 1000) (hr1 : W.ownsRow B 73 2 v L.length (pcv L)) (hr2 : W.ownsRow B' 73 2 v' L.length (pcv L)) :
    Calls Try.prog 57 #[v, v'] W fun e w' => e = .returned (.bool true) ∧ Below W.heap.size W w' := by
  by_cases h0 : L.length = 0
  · rw [h0] at hr1 hr2
    rcases Go.Joins.ownsRow_forms hr1 with ⟨rfl, _⟩ | ⟨g, c, rfl⟩ <;> rcases Go.Joins.ownsRow_forms hr2 with ⟨rfl, _⟩ | ⟨g', c', rfl⟩ <;> exact sameU_nil _ _ _ _ _
  · obtain ⟨g1, g2, g3⟩ := prOwn_of hr1 (by omega)
    obtain ⟨g, c, rfl, _, hb, _, hc⟩ := prOwn_of hr1 (by omega)
    obtain ⟨g', c', rfl, _, hb', _, hc'⟩ := prOwn_of hr2 (by omega)
    exact sameU_row g 0 g' 0 c c' L W hb hb' hL hc hc'
end Go.Proofs.Ytciicijindanlaa
