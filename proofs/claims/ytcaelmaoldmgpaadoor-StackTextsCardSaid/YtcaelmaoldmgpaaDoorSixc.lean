/- Six numbers in memory; what readCourse answers. -/
import Derived.Test.YtcaelmaoldmgpaaDoorSixw
import Derived.Test.YtcaelmaoldmgpaaDoorSixp
import Derived.Deep.RegionWith
namespace Go.Proofs.YtcaelmaoldmgpaaDoor
open Go.RowKit Cr
attribute [local go_sem] After.cell After.frozen After.lt After.le After.ne After.ne' After.lt_add tx_size tx_toList

/-- What readCourse answers. -/
def RdAns (s : List UInt8) (e : Ending) : Prop := ∃ (F : Nat → Int) (ok : Bool), e = .returned (.tuple #[.agg #[.int .i64 (F 0), .int .i64 (F 1), .int .i64 (F 2), .int .i64 (F 3), .int .i64 (F 4), .int .i64 (F 5)], .bool ok]) ∧ (ok = true → OkR F ∧ s = rowL F) ∧ (ok = false → ∀ G, OkR G → s ≠ rowL G)
theorem rd_len {s : List UInt8} (h : (wordsL 32 s).length ≠ 6) : ∀ G, s ≠ rowL G := fun G e => h (by rw [e, words_row]; rfl)
/-- Six cells set. -/
def set6 (W : World) (B : Nat) (F : Nat → Int) : World := (((((W.setCell ⟨B, 0, none⟩ (.int .i64 (F 0))).setCell ⟨B, 1, none⟩ (.int .i64 (F 1))).setCell ⟨B, 2, none⟩ (.int .i64 (F 2))).setCell ⟨B, 3, none⟩ (.int .i64 (F 3))).setCell ⟨B, 4, none⟩ (.int .i64 (F 4))).setCell ⟨B, 5, none⟩ (.int .i64 (F 5))
theorem set6_cell {W : World} {B : Nat} (F : Nat → Int) (h : ∀ j, j < 6 → ∃ u, W.cell? ⟨B, j, none⟩ = some u) {j : Nat} (hj : j < 6) : (set6 W B F).cell? ⟨B, j, none⟩ = some (.int .i64 (F j)) := by
  unfold set6
  obtain ⟨u0, h0⟩ := h 0 (by omega)
  obtain ⟨u1, h1⟩ := h 1 (by omega)
  obtain ⟨u2, h2⟩ := h 2 (by omega)
  obtain ⟨u3, h3⟩ := h 3 (by omega)
  obtain ⟨u4, h4⟩ := h 4 (by omega)
  obtain ⟨u5, h5⟩ := h 5 (by omega)
  have ne : ∀ a b : Nat, a ≠ b → (⟨B, a, none⟩ : Addr) ≠ ⟨B, b, none⟩ := fun a b h e => h (by cases e; rfl)
  have oth := fun (V : World) (a b : Nat) (v : Value) (hn : a ≠ b) => World.cell?_setCell_other V ⟨B, a, none⟩ ⟨B, b, none⟩ v (ne a b hn)
  rcases (show j = 0 ∨ j = 1 ∨ j = 2 ∨ j = 3 ∨ j = 4 ∨ j = 5 by omega) with rfl | rfl | rfl | rfl | rfl | rfl
  · rw [oth _ 5 0 _ (by decide), oth _ 4 0 _ (by decide), oth _ 3 0 _ (by decide), oth _ 2 0 _ (by decide), oth _ 1 0 _ (by decide)]
    exact World.cell?_setCell_same _ _ _ h0
  · rw [oth _ 5 1 _ (by decide), oth _ 4 1 _ (by decide), oth _ 3 1 _ (by decide), oth _ 2 1 _ (by decide)]
    exact World.cell?_setCell_same _ _ _ ((oth _ 0 1 _ (by decide)).trans h1)
  · rw [oth _ 5 2 _ (by decide), oth _ 4 2 _ (by decide), oth _ 3 2 _ (by decide)]
    exact World.cell?_setCell_same _ _ _ ((oth _ 1 2 _ (by decide)).trans ((oth _ 0 2 _ (by decide)).trans h2))
  · rw [oth _ 5 3 _ (by decide), oth _ 4 3 _ (by decide)]
    exact World.cell?_setCell_same _ _ _ ((oth _ 2 3 _ (by decide)).trans ((oth _ 1 3 _ (by decide)).trans ((oth _ 0 3 _ (by decide)).trans h3)))
  · rw [oth _ 5 4 _ (by decide)]
    exact World.cell?_setCell_same _ _ _ ((oth _ 3 4 _ (by decide)).trans ((oth _ 2 4 _ (by decide)).trans ((oth _ 1 4 _ (by decide)).trans ((oth _ 0 4 _ (by decide)).trans h4))))
  · exact World.cell?_setCell_same _ _ _ ((oth _ 4 5 _ (by decide)).trans ((oth _ 3 5 _ (by decide)).trans ((oth _ 2 5 _ (by decide)).trans ((oth _ 1 5 _ (by decide)).trans ((oth _ 0 5 _ (by decide)).trans h5)))))
theorem set6_below {B0 : Nat} {w W : World} {B : Nat} (F : Nat → Int) (h : Below B0 w W) (hB : B0 ≤ B) : Below B0 w (set6 W B F) :=
  (((((h.setCell (p := ⟨B, 0, none⟩) hB _).setCell (p := ⟨B, 1, none⟩) hB _).setCell (p := ⟨B, 2, none⟩) hB _).setCell (p := ⟨B, 3, none⟩) hB _).setCell (p := ⟨B, 4, none⟩) hB _).setCell (p := ⟨B, 5, none⟩) hB _
/-- Six numbers in a block of the call's own. -/
structure Has6 (W : World) (B : Nat) (F : Nat → Int) : Prop where
  lt : B < W.heap.size
  got : ∀ j, j < 6 → W.cell? ⟨B, j, none⟩ = some (.int .i64 (F j))
  free : ∀ o, W.frozen? ⟨B, o, none⟩ = false
theorem Has6.on {W W' : World} {B : Nat} {F : Nat → Int} (h : Has6 W B F) (hb : Below W.heap.size W W') : Has6 W' B F :=
  ⟨Nat.lt_of_lt_of_le h.lt hb.size, fun j hj => (hb.cell (p := ⟨B, j, none⟩) h.lt).trans (h.got j hj), fun o => (hb.frozen (p := ⟨B, o, none⟩) h.lt).trans (h.free o)⟩
theorem has6_new (w : World) (T : TypeId) (F : Nat → Int) : Has6 (w.alloc (.cells #[.int .i64 (F 0), .int .i64 (F 1), .int .i64 (F 2), .int .i64 (F 3), .int .i64 (F 4), .int .i64 (F 5)] T)) w.heap.size F :=
  ⟨by simp, fun j hj => by rcases (show j = 0 ∨ j = 1 ∨ j = 2 ∨ j = 3 ∨ j = 4 ∨ j = 5 by omega) with rfl | rfl | rfl | rfl | rfl | rfl <;> simp [go_sem], fun o => by simp [go_sem]⟩
theorem Has6.set {W : World} {B : Nat} {F : Nat → Int} (h : Has6 W B F) (k : Nat) (N : Int) (hk : k < 6) : Has6 (W.setCell ⟨B, k, none⟩ (.int .i64 N)) B (fun j => if j = k then N else F j) :=
  ⟨by simpa using h.lt, fun j hj => by
    by_cases e : j = k
    · subst e
      simp only [if_pos]
      exact World.cell?_setCell_same _ _ _ (h.got j hj)
    · simp only [if_neg e]
      rw [World.cell?_setCell_other _ _ _ _ (fun he => e (by cases he; rfl))]
      exact h.got j hj, fun o => by simp [h.free o]⟩

theorem put6 {w W : World} {u : Nat → Int} (F : Nat → Int) (h : Has6 W w.heap.size u) (hb : Below w.heap.size w W) : ∃ X, set6 W w.heap.size F = X ∧ Has6 X w.heap.size F ∧ Below w.heap.size w X :=
  ⟨_, rfl, ⟨by unfold set6; simpa using h.lt, fun _ hj => set6_cell F (fun j hj => ⟨_, h.got j hj⟩) hj, fun o => by unfold set6; simp [h.free o]⟩, set6_below F hb (Nat.le_refl _)⟩
theorem rd_of {s : List UInt8} {F : Nat → Int} (hF : ∀ j, j < 6 → ∀ n, I64 n → (wordsL 32 s)[j]? = some (Lib.itoa n) → F j = n) (ok : Bool) (hok : ok = (decide (OkR F) && (rowL F == s))) :
    ∀ e, e = .returned (.tuple #[.agg #[.int .i64 (F 0), .int .i64 (F 1), .int .i64 (F 2), .int .i64 (F 3), .int .i64 (F 4), .int .i64 (F 5)], .bool ok]) → RdAns s e := fun e he => by
  refine ⟨F, ok, he, fun h => ?_, fun h G hG e => ?_⟩
  · rw [h] at hok
    have := hok.symm
    simp at this
    exact ⟨this.1, this.2.symm⟩
  · have hw : wordsL 32 s = sixW G := by rw [e, words_row]
    have hFG : ∀ j, j < 6 → F j = G j := fun j hj => hF j hj _ (hG.i6 j hj) (by
      rw [hw]
      rcases (show j = 0 ∨ j = 1 ∨ j = 2 ∨ j = 3 ∨ j = 4 ∨ j = 5 by omega) with rfl | rfl | rfl | rfl | rfl | rfl <;> rfl)
    have h1 : OkR F := (okR_congr hFG).2 hG
    have h2 : rowL F = s := by
      rw [e]
      unfold rowL sixW
      rw [hFG 0 (by omega), hFG 1 (by omega), hFG 2 (by omega), hFG 3 (by omega), hFG 4 (by omega), hFG 5 (by omega)]
    rw [h] at hok
    simp [h1, h2] at hok

end Go.Proofs.YtcaelmaoldmgpaaDoor
