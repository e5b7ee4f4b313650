/- The reference's spans. -/
import Derived.Test.YtmhjahljilaijaaDoorTxWdr
import Derived.Deep.AppendLies
import Derived.OwnWalk
namespace Go.Proofs.YtmhjahljilaijaaDoor.Tx
open Go.Proofs.YtmhjahljilaijaaDoor
open Go.RowKit
attribute [local go_sem] After.cell After.frozen After.lt After.le After.ne After.ne' After.set_eq After.size_set After.lt_add

def scv (ps : List (Int × Int)) : List Value := ps.flatMap fun p => [.int .i64 p.1, .int .i64 p.2]
theorem scv_snoc (ps : List (Int × Int)) (p : Int × Int) : scv (ps ++ [p]) = scv ps ++ [.int .i64 p.1, .int .i64 p.2] := by simp [scv]
theorem scv_len (ps : List (Int × Int)) : (scv ps).length = ps.length * 2 := by
  induction ps with
  | nil => rfl
  | cons p ps ih => simp only [scv, List.flatMap_cons, List.length_append, List.length_cons, List.length_nil] at *; omega
theorem scv_get : ∀ {ps : List (Int × Int)} {i : Nat}, i < ps.length → (scv ps)[i * 2]? = some (.int .i64 (ps.getD i (0, 0)).1) ∧ (scv ps)[i * 2 + 1]? = some (.int .i64 (ps.getD i (0, 0)).2)
  | p :: ps, 0, _ => by simp [scv]
  | p :: ps, i + 1, h => by
    have e : scv (p :: ps) = [.int .i64 p.1, .int .i64 p.2] ++ scv ps := by simp [scv]
    have := scv_get (ps := ps) (i := i) (by simpa using h)
    rw [e, show (i + 1) * 2 = i * 2 + 2 by omega, List.getElem?_append_right (by simp), List.getElem?_append_right (by simp)]
    simpa using this
theorem scv_last (l : List (Int × Int)) (x y z : Int) : (scv (l ++ [(x, y)])).set (l.length * 2 + 1) (.int .i64 z) = scv (l ++ [(x, z)]) := by
  rw [scv_snoc, scv_snoc, ← scv_len, List.set_append_right _ _ (by omega), Nat.add_sub_cancel_left]
  rfl
theorem scv_at (l : List (Int × Int)) (x y : Int) : (scv (l ++ [(x, y)]))[l.length * 2 + 1]? = some (.int .i64 y) := by
  rw [scv_snoc, ← scv_len, List.getElem?_append_right (by omega), Nat.add_sub_cancel_left]
  rfl
/-- Spans of the call's own. -/
def SpRow (W : World) (B : Nat) (v : Value) (l : List (Int × Int)) : Prop := W.ownsRow B 38 2 v l.length (scv l)
theorem spanInfo : (Tryd.prog.info? 38).map (fun i => (i.zero, i.size, i.bytes)) = some (some (.agg #[.int .i64 0, .int .i64 0]), 2, 16) := by kernel_rfl
theorem nil_or_snoc {α : Type} (L : List α) : L = [] ∨ ∃ L' x, L = L' ++ [x] := by
  rcases List.eq_nil_or_concat L with h | ⟨a, b, h⟩
  · exact .inl h
  · exact .inr ⟨a, b, by rw [h, List.concat_eq_append]⟩
theorem addS_nil (k : Nat) : addS [] k = [((k : Int), (k : Int) + 1)] := rfl
theorem addS_last (l : List (Int × Int)) (x y : Int) (k : Nat) : addS (l ++ [(x, y)]) k = if y = k then l ++ [(x, (k : Int) + 1)] else (l ++ [(x, y)]) ++ [((k : Int), (k : Int) + 1)] := by
  unfold addS
  rw [show (l ++ [(x, y)]).getLast? = some (x, y) by simp]
  simp

end Go.Proofs.YtmhjahljilaijaaDoor.Tx
