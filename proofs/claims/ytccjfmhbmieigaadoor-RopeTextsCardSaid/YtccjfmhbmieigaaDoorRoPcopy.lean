/- A copy of a list of pairs, in a block of its own. -/
import Derived.Test.YtccjfmhbmieigaaDoorRoPairs
import Derived.Test.YtccjfmhbmieigaaDoorRoLoadm
import Derived.Test.YtccjfmhbmieigaaDoorProg
import Derived.Laws.AppendOwn
import Derived.Deep.AppendLies
import Derived.Lib.SmallJoins
import Derived.Laws.MakeOwn
import Derived.Laws.OwnMore
import Derived.KernelRfl
namespace Go.Proofs.YtccjfmhbmieigaaDoor.Ro
open Go.Proofs.YtccjfmhbmieigaaDoor
open Go.RowKit

def pcv (ps : List (Int × Int)) : List Value := ps.flatMap fun p => [.int .i64 p.1, .int .i64 p.2]
theorem pcv_snoc (ps : List (Int × Int)) (p : Int × Int) : pcv (ps ++ [p]) = pcv ps ++ [.int .i64 p.1, .int .i64 p.2] := by simp [pcv]
theorem pcv_app (ps qs : List (Int × Int)) : pcv (ps ++ qs) = pcv ps ++ pcv qs := by simp [pcv]
theorem pcv_len (ps : List (Int × Int)) : (pcv ps).length = ps.length * 2 := by
  induction ps with
  | nil => rfl
  | cons p ps ih => simp only [pcv, List.flatMap_cons, List.length_append, List.length_cons, List.length_nil] at *; omega
theorem pcv_get : ∀ {ps : List (Int × Int)} {i : Nat}, i < ps.length → (pcv ps)[i * 2]? = some (.int .i64 (ps.getD i (0, 0)).1) ∧ (pcv ps)[i * 2 + 1]? = some (.int .i64 (ps.getD i (0, 0)).2)
  | p :: ps, 0, _ => by simp [pcv]
  | p :: ps, i + 1, h => by
    have e : pcv (p :: ps) = [.int .i64 p.1, .int .i64 p.2] ++ pcv ps := by simp [pcv]
    have := pcv_get (ps := ps) (i := i) (by simpa using h)
    rw [e, show (i + 1) * 2 = i * 2 + 2 by omega, List.getElem?_append_right (by simp), List.getElem?_append_right (by simp)]
    simpa using this
theorem pcv_cells {W : World} {b off : Nat} {ps : List (Int × Int)} (h : PrCells W b off ps) : ∀ j u, (pcv ps)[j]? = some u → W.cell? ((⟨b, off, none⟩ : Addr).add j) = some u := by
  intro j u hu
  have hj : j < ps.length * 2 := by
    have := (List.getElem?_eq_some_iff.1 hu).1
    rwa [pcv_len] at this
  have ha : (⟨b, off, none⟩ : Addr).add j = ⟨b, off + j, none⟩ := by simp [Addr.add]
  rw [ha]
  obtain ⟨g0, g1⟩ := pcv_get (ps := ps) (i := j / 2) (by omega)
  obtain ⟨c0, c1⟩ := h (j / 2) (by omega)
  rcases (show j = j / 2 * 2 ∨ j = j / 2 * 2 + 1 by omega) with e | e
  · rw [e] at hu ⊢; rw [g0] at hu; rw [c0]; exact hu
  · rw [e] at hu ⊢; rw [g1] at hu; rw [← Nat.add_assoc, c1]; exact hu
theorem pcv_one (ps : List (Int × Int)) : ∀ u ∈ pcv ps, u.oneCell' = true := by
  intro u hu
  unfold pcv at hu
  simp only [List.mem_flatMap, List.mem_cons, List.not_mem_nil, or_false] at hu
  obtain ⟨i, _, rfl | rfl⟩ := hu <;> rfl
/-- The slice value v owns the pairs ps. -/
def PrOwn (W : World) (base : Nat) (v : Value) (ps : List (Int × Int)) : Prop :=
  ∃ g cap, v = .slice (some ⟨g, 0, none⟩) ps.length cap ∧ base ≤ g ∧ g < W.heap.size ∧ (∀ o, W.frozen? ⟨g, o, none⟩ = false) ∧ PrCells W g 0 ps
theorem prOwn_of {W : World} {base : Nat} {t : TypeId} {v : Value} {ps : List (Int × Int)} (h : W.ownsRow base t 2 v ps.length (pcv ps)) (hn : 1 ≤ ps.length) : PrOwn W base v ps := by
  obtain ⟨g, cap, rfl⟩ := Go.Joins.ownsRow_form h hn
  refine ⟨g, cap, rfl, (h.lt g rfl).1, (h.lt g rfl).2, fun o => h.frozenAt o, fun i hi => ?_⟩
  rw [Nat.zero_add, h.cellAt _ (by omega), h.cellAt _ (by omega)]
  exact pcv_get hi
theorem prs_own {W : World} {base : Nat} {v : Value} {ps : List (Int × Int)} (h : PrOwn W base v ps) (hl : ps.length ≤ 1000000) : Prs W W.heap.size v ps := by
  obtain ⟨g, cap, rfl, h1, h2, h3, h4⟩ := h
  exact .inr ⟨g, 0, cap, rfl, h2, by omega, h4⟩
/-- A store into a place of such a block. -/
theorem prCells_set {W : World} {g i : Nat} {ps : List (Int × Int)} {to : Int} (h : PrCells W g 0 ps) (hi : i < ps.length) :
    PrCells (W.setCell ⟨g, i * 2, none⟩ (.int .i64 to)) g 0 (ps.set i (to, (ldAt ps i).2)) := by
  intro k hk
  have hk' : k < ps.length := by simpa using hk
  obtain ⟨c0, c1⟩ := h k hk'
  have e := show (ps.set i (to, (ldAt ps i).2)).getD k (0, 0) = if k = i then (to, (ldAt ps i).2) else ps.getD k (0, 0) by
    simp only [List.getD_eq_getElem?_getD, List.getElem?_set]
    by_cases e : i = k
    · subst e; simp [hi]
    · have : ¬ k = i := fun h => e h.symm
      simp [e, this]
  rw [e]
  rw [Nat.zero_add] at *
  by_cases hki : k = i
  · subst hki
    rw [if_pos rfl]
    refine ⟨World.cell?_setCell_same _ _ _ c0, ?_⟩
    rw [World.cell?_setCell_other _ _ _ _ (by simp)]
    exact c1
  · rw [if_neg hki]
    refine ⟨?_, ?_⟩
    · rw [World.cell?_setCell_other _ _ _ _ (by first | (simp; done) | (simp; omega))]; exact c0
    · rw [World.cell?_setCell_other _ _ _ _ (by first | (simp; done) | (simp; omega))]; exact c1
theorem useInfo : (Tryd.prog.info? 75).map (fun i => (i.zero, i.size, i.bytes)) = some (some (.agg #[.int .i64 0, .int .i64 0]), 2, 16) := by kernel_rfl
end Go.Proofs.YtccjfmhbmieigaaDoor.Ro
