/- The reference's spans. -/
import Derived.Test.YtfmoedlnjlkiiaaDoorWdr
import Derived.Deep.AppendLies
import Derived.OwnWalk
namespace Go.Proofs.YtfmoedlnjlkiiaaDoor
open Go.RowKit
attribute [local go_sem] After.cell After.frozen After.lt After.le After.ne After.ne' After.set_eq After.size_set After.lt_add

def scv (ps : List (Int × Int)) : List Value := ps.flatMap fun p => [.int .i64 p.1, .int .i64 p.2]
theorem scv_snoc (ps : List (Int × Int)) (p : Int × Int) : scv (ps ++ [p]) = scv ps ++ [.int .i64 p.1, .int .i64 p.2] := by simp [scv]
theorem scv_len (ps : List (Int × Int)) : (scv ps).length = ps.length * 2 := by
  induction ps with
  | nil => rfl
  | cons p ps ih => simp only [scv, List.flatMap_cons, List.length_append, List.length_cons, List.length_nil] at *; omega
theorem scv_get : ∀ {ps : List (Int × Int)} {i : Nat}, i < ps.length → (scv ps)[i * 2]? = some (.int .i64 (ps.getD i (0, 0)).1) ∧ (scv ps)[i * 2 + 1]? = some (.int .i64 (ps.getD i (0, 0)).2)
  | p :: ps, 0, _ => by simp [scv]
  | p :: ps, i + 1, h => by
    have e : scv (p :: ps) = [.int .i64 p.1, .int .i64 p.2] ++ scv ps := by simp [scv]
    have := scv_get (ps := ps) (i := i) (by simpa using h)
    rw [e, show (i + 1) * 2 = i * 2 + 2 by omega, List.getElem?_append_right (by simp), List.getElem?_append_right (by simp)]
    simpa using this
theorem scv_last (l : List (Int × Int)) (x y z : Int) : (scv (l ++ [(x, y)])).set (l.length * 2 + 1) (.int .i64 z) = scv (l ++ [(x, z)]) := by
  rw [scv_snoc, scv_snoc, ← scv_len, List.set_append_right _ _ (by omega), Nat.add_sub_cancel_left]
  rfl
theorem scv_at (l : List (Int × Int)) (x y : Int) : (scv (l ++ [(x, y)]))[l.length * 2 + 1]? = some (.int .i64 y) := by
  rw [scv_snoc, ← scv_len, List.getElem?_append_right (by omega), Nat.add_sub_cancel_left]
  rfl
/-- Spans of the call's own. -/
def SpRow (W : World) (B : Nat) (v : Value) (l : List (Int × Int)) : Prop := W.ownsRow B 38 2 v l.length (scv l)
theorem spanInfo : (Tryd.prog.info? 38).map (fun i => (i.zero, i.size, i.bytes)) = some (some (.agg #[.int .i64 0, .int .i64 0]), 2, 16) := by kernel_rfl
theorem nil_or_snoc {α : Type} (L : List α) : L = [] ∨ ∃ L' x, L = L' ++ [x] := by
  rcases List.eq_nil_or_concat L with h | ⟨a, b, h⟩
  · exact .inl h
  · exact .inr ⟨a, b, by rw [h, List.concat_eq_append]⟩
theorem addS_nil (k : Nat) : addS [] k = [((k : Int), (k : Int) + 1)] := rfl
theorem addS_last (l : List (Int × Int)) (x y : Int) (k : Nat) : addS (l ++ [(x, y)]) k = if y = k then l ++ [(x, (k : Int) + 1)] else (l ++ [(x, y)]) ++ [((k : Int), (k : Int) + 1)] := by
  unfold addS
  rw [show (l ++ [(x, y)]).getLast? = some (x, y) by simp]
  simp

set_option maxRecDepth 100000 in
set_option maxHeartbeats 2000000 in
theorem rspans_any (g n : Nat) (p : Nat → Bool) (q : Bool) (w : World) (hg : g < w.heap.size) (hn : n ≤ 2000) (hO : ∀ k, k < n → w.cell? ⟨g, k, none⟩ = some (.bool (p k))) :
    Calls Tryd.prog 55 #[.slice (some ⟨g, 0, none⟩) n n, .bool q] w fun e w' => (∃ v, e = .returned v ∧ SpRow w' w.heap.size v (spS (fl (fun k => p k == q) n))) ∧ Below w.heap.size w w' := by
  have HO := Lib.hid hO
  have hnI : (n : Int) ≤ 2000 := by omega
  obtain ⟨i0, hi, hz0, hz1, hz2⟩ := info_parts spanInfo
  unfold SpRow
  clear hO
  go_enter Tryd.func55, Tryd.ntmps55
  go_wp2
  go_loopw [5, 6] (fun v i wr => ∃ k : Nat, k ≤ n ∧ i = .int .i64 k ∧ wr.ownsRow w.heap.size 38 2 v (spS (fl (fun k => p k == q) k)).length (scv (spS (fl (fun k => p k == q) k))) ∧ Below w.heap.size w wr) (fun _ i _ => n - (intOf i).toNat)
  case atStart => exact ⟨0, by omega, rfl, World.ownsRow_nil _ _ _ _, Below.refl _ _⟩
  case round =>
    obtain ⟨k, hk, rfl, hown, hB⟩ := hrel
    by_cases hlt : k < n
    · have hc := (hB.cell (p := ⟨g, k, none⟩) hg).trans (HO.out k hlt)
      have hgr := Nat.lt_of_lt_of_le hg hB.size
      have HF := Lib.hid (fl_succ (fun k => p k == q) k)
      have hle := Nat.le_trans (spS_len (fl (fun k => p k == q) k)) (fl_len _ k)
      have HB := Lib.hid hB
      have hsB := hB.size
      clear hB
      obtain ⟨z, hz⟩ : ∃ z, p k = z := ⟨_, rfl⟩
      rw [hz] at hc
      by_cases hpq : (z == q) = true
      · have HS : Hid (spS (fl (fun k => p k == q) (k + 1)) = addS (spS (fl (fun k => p k == q) k)) k) := Lib.hid (by rw [HF.out, hz, if_pos hpq, spS_snoc])
        generalize spS (fl (fun k => p k == q) k) = L at *
        clear HF
        obtain rfl : z = q := beq_iff_eq.1 hpq
        rcases nil_or_snoc L with rfl | ⟨L', ⟨x, y⟩, rfl⟩
        · rw [addS_nil] at HS
          obtain ⟨a, cap, rfl⟩ := ownsR_shape hown
          have HOw := Lib.hid hown
          clear hown
          go_wp2_with (at_builtin; refine wpList_append_own _ rfl _ _ 27 rfl w.heap.size 38 i0 (.agg #[.int .i64 0, .int .i64 0]) 2 16 Tryd.underlying27 hi hz0 hz1 hz2 rfl (by decide) _ _ _ rfl (HOw.out.alloc _) ⟨wr.heap.size, 0, none⟩ 1 1 [.int .i64 k, .int .i64 ((k : Int) + 1)] rfl rfl (World.news_of_block (cs := #[.int .i64 k, .int .i64 ((k : Int) + 1)]) (t := 38) (fr := (0, 0)) (heap_alloc_new wr _)) (by simp [Value.oneCell']) (by unfold maxLen; omega) (by omega) (by simp; omega) ?_; intro v' w1 hown' hgrow _)
          go_roundw
          case rel => exact ⟨k + 1, by omega, by go_num, by rw [HS.out]; simpa [scv] using hown', (HB.out.alloc hsB _).grown hgrow (by simp; omega) (fun j e => (HOw.out.lt j e).1)⟩
          case measure => simp [intOf]; omega
        · rw [addS_last] at HS
          have hlen : (L' ++ [(x, y)]).length = L'.length + 1 := by simp
          rw [hlen] at hown hle
          obtain ⟨g', cap, rfl⟩ := Go.Joins.ownsRow_form hown (by omega)
          have e1 := hown.cellAt (L'.length * 2 + 1) (by omega)
          rw [scv_at] at e1
          have f1 := hown.frozenAt (L'.length * 2 + 1)
          have hg1 := hown.lt g' rfl
          have HOw := Lib.hid hown
          have hpos : (0 : Int) < ((L'.length + 1 : Nat) : Int) := by omega
          clear hown hlen
          by_cases hy : y = k
          · subst hy
            rw [if_pos rfl] at HS
            go_wp2
            go_roundw
            case rel =>
              have := (HOw.out.stored (L'.length * 2 + 1) (.int .i64 ((k : Int) + 1))).1
              rw [scv_last] at this
              exact ⟨k + 1, by omega, by go_num, by rw [HS.out]; simpa using this, HB.out.setCell hg1.1 _⟩
            case measure => simp [intOf]; omega
          · rw [if_neg hy] at HS
            have hy' : (y == (k : Int)) = false := beq_eq_false_iff_ne.2 hy
            go_wp2_with (at_builtin; refine wpList_append_own _ rfl _ _ 27 rfl w.heap.size 38 i0 (.agg #[.int .i64 0, .int .i64 0]) 2 16 Tryd.underlying27 hi hz0 hz1 hz2 rfl (by decide) _ _ _ rfl (HOw.out.alloc _) ⟨wr.heap.size, 0, none⟩ 1 1 [.int .i64 k, .int .i64 ((k : Int) + 1)] rfl rfl (World.news_of_block (cs := #[.int .i64 k, .int .i64 ((k : Int) + 1)]) (t := 38) (fr := (0, 0)) (heap_alloc_new wr _)) (by simp [Value.oneCell']) (by unfold maxLen; omega) (by omega) (by simp; omega) ?_; intro v' w1 hown' hgrow _)
            go_roundw
            case rel => exact ⟨k + 1, by omega, by go_num, by rw [HS.out, scv_snoc]; simpa using hown', (HB.out.alloc hsB _).grown hgrow (by simp; omega) (fun j e => (HOw.out.lt j e).1)⟩
            case measure => simp [intOf]; omega
      · have HS : Hid (spS (fl (fun k => p k == q) (k + 1)) = spS (fl (fun k => p k == q) k)) := Lib.hid (by rw [HF.out, hz, if_neg hpq])
        have hne : (z != q) = true := by simpa [bne] using hpq
        clear HF
        go_wp2
        go_roundw
        case rel => exact ⟨k + 1, by omega, by go_num, by rw [HS.out]; exact hown, HB.out⟩
        case measure => simp [intOf]; omega
    · obtain rfl : k = n := by omega
      obtain ⟨a, cap, rfl⟩ := ownsR_shape hown
      have HOw := Lib.hid hown
      clear hown
      go_wp2
      go_returns
      exact ⟨⟨_, rfl, HOw.out⟩, hB⟩
end Go.Proofs.YtfmoedlnjlkiiaaDoor
