/- Slices of points as arguments: without a point, or with their cells; what both tests say of them. -/
import Derived.Test.YtdhobjflfhijjaaWorst
import Derived.Test.YtdhobjflfhijjaaSlices
import Derived.Test.YtdhobjflfhijjaaOpen
namespace Go.Proofs.Ytdhobjflfhijjaa
open Go.RowKit Go.ChangeShapes Go.WideShapes Go.Joins
attribute [local go_sem] After.cell After.frozen After.lt After.le After.ne After.ne' After.set_eq After.size_set After.lt_add

set_option maxHeartbeats 400000 in
theorem validPoints_empty (a : Option Addr) (cap : Nat) (w : World) :
    Calls Try.prog 38 #[.slice a 0 cap] w fun e w' => e = .returned (.bool false) ∧ Below w.heap.size w w' := by
  go_enter Try.func38, Try.ntmps38
  go_wp2
  go_ret
  exact ⟨rfl, by (repeat' (first | (with_reducible exact Below.refl _ _) | (with_reducible assumption) | (with_reducible refine Below.alloc ?_ ?_ _) | (with_reducible refine Below.drew ?_) | (with_reducible refine below_drewN ?_ _) | (with_reducible refine Below.setCell ?_ ?_ _) | (with_reducible refine below_after ?_ ?_ _) | (with_reducible refine below_set ?_) | (with_reducible refine After.size_le _ ?_) | (with_reducible refine size_alloc_le ?_) | (with_reducible refine size_set_le ?_) | (with_reducible refine size_drewN_le ?_) | go_size))⟩
set_option maxHeartbeats 400000 in
theorem rvalidPoints_empty (a : Option Addr) (cap : Nat) (w : World) :
    Calls Try.prog 39 #[.slice a 0 cap] w fun e w' => e = .returned (.bool false) ∧ Below w.heap.size w w' := by
  go_enter Try.func39, Try.ntmps39
  go_wp2
  go_loopw [3] (fun i wr => i = .int .i64 0 ∧ ∃ x : After w, wr = x.w) (fun _ _ => 0)
  case atStart => exact ⟨rfl, ⟨w, Below.refl _ _⟩, rfl⟩
  case round =>
    obtain ⟨rfl, x, rfl⟩ := hrel
    go_wp2
    go_ret
    exact ⟨rfl, by (repeat' (first | (with_reducible exact Below.refl _ _) | (with_reducible assumption) | (with_reducible refine Below.alloc ?_ ?_ _) | (with_reducible refine Below.drew ?_) | (with_reducible refine below_drewN ?_ _) | (with_reducible refine Below.setCell ?_ ?_ _) | (with_reducible refine below_after ?_ ?_ _) | (with_reducible refine below_set ?_) | (with_reducible refine After.size_le _ ?_) | (with_reducible refine size_alloc_le ?_) | (with_reducible refine size_set_le ?_) | (with_reducible refine size_drewN_le ?_) | go_size))⟩

theorem say_pts {w : World} {v : Value} {ps : List (Int × Int)} (h : Pts w w.heap.size v ps) (hl : ps.length ≤ 100) : PtsSay w v (decide (GoodPts ps)) := by
  intro W hW
  rcases h with ⟨a, cap, rfl, rfl⟩ | ⟨b, off, cap, rfl, hb, _, hc⟩
  · exact validPoints_empty a cap W
  · exact validPoints_any b off cap ps W (Nat.lt_of_lt_of_le hb hW.size) (by omega) (cells_on hb hc hW)
theorem rsay_pts {w : World} {v : Value} {ps : List (Int × Int)} (h : Pts w w.heap.size v ps) (hl : ps.length ≤ 100) : RptsSay w v (decide (GoodPts ps)) := by
  intro W hW
  rcases h with ⟨a, cap, rfl, rfl⟩ | ⟨b, off, cap, rfl, hb, _, hc⟩
  · exact rvalidPoints_empty a cap W
  · exact rvalidPoints_any b off cap ps W (Nat.lt_of_lt_of_le hb hW.size) (by omega) (cells_on hb hc hW)
theorem pts_good {w : World} {v : Value} {ps : List (Int × Int)} (h : Pts w w.heap.size v ps) (hG : GoodPts ps) :
    ∃ b off cap, v = .slice (some ⟨b, off, none⟩) ps.length cap ∧ b < w.heap.size ∧ ∀ i, i < ps.length → w.cell? ⟨b, off + i * 2, none⟩ = some (.int .i64 (ps.getD i (0, 0)).1) ∧ w.cell? ⟨b, off + i * 2 + 1, none⟩ = some (.int .i64 (ps.getD i (0, 0)).2) := by
  rcases h with ⟨a, cap, rfl, rfl⟩ | ⟨b, off, cap, rfl, hb, _, hc⟩
  · exact absurd hG.1 (by simp)
  · exact ⟨b, off, cap, rfl, hb, hc⟩
theorem pts_slice {w : World} {v : Value} {ps : List (Int × Int)} (h : Pts w w.heap.size v ps) : ∃ a cap, v = .slice a ps.length cap := by
  rcases h with ⟨a, cap, rfl, rfl⟩ | ⟨b, off, cap, rfl, hb, _, hc⟩
  · exact ⟨a, cap, rfl⟩
  · exact ⟨_, cap, rfl⟩

section
variable {H : Type} {enc : TypeId × Value → H} {w : World} {base : Nat} {spare : Nat → Bool} {held : Bool}
theorem getD_range_map {α : Type} (f : Nat → α) (d : α) {n i : Nat} (h : i < n) : ((List.range n).map f).getD i d = f i := by
  simp [List.getD_eq_getElem?_getD, h]
set_option maxRecDepth 100000 in
theorem open_pts {v : Value} {d : DataW H} {p : List MemPlace} {r : Reach} {b0 : Nat} (hv : Value.okWide Try.prog w r b0 24 v) (h : DataW.Trod enc Try.prog w base spare held 24 v d p) :
    ∃ ps : List (Int × Int), Pts w w.heap.size v ps ∧ ∀ i, i < ps.length → (Lit.int .i64 (ps.getD i (0, 0)).1).wf = true ∧ (Lit.int .i64 (ps.getD i (0, 0)).2).wf = true := by
  rcases open_rows (k := 2) Try.underlying24 Try.underlying37 (by omega) cellsPoint (by kernel_rfl) (by kernel_rfl) hv h with ⟨a, cap, rfl⟩ | ⟨b, off, len, cap, V, rfl, h0, hm, hb, hc⟩
  · exact ⟨[], .inl ⟨a, cap, rfl, rfl⟩, fun i hi => absurd hi (by simp)⟩
  · refine ⟨(List.range len).map fun i => (V i 0, V i 1), .inr ⟨b, off, cap, by simp, hb, by simp; unfold maxLen at hm; omega, fun i hi => ?_⟩, fun i hi => ?_⟩
    · simp only [List.length_map, List.length_range] at hi
      rw [getD_range_map _ _ hi]
      exact ⟨(hc i hi 0 (by omega)).1, (hc i hi 1 (by omega)).1⟩
    · simp only [List.length_map, List.length_range] at hi
      rw [getD_range_map _ _ hi]
      exact ⟨(hc i hi 0 (by omega)).2, (hc i hi 1 (by omega)).2⟩
end
end Go.Proofs.Ytdhobjflfhijjaa
