/- Slices of marks as arguments. -/
import Derived.Test.YtdhobjflfhijjaaMoved
import Derived.Test.YtdhobjflfhijjaaSlices
import Derived.Test.YtdhobjflfhijjaaOpen
namespace Go.Proofs.Ytdhobjflfhijjaa
open Go.RowKit Go.ChangeShapes Go.WideShapes Go.Joins Go.Deep
attribute [local go_sem] After.cell After.frozen After.lt After.le After.ne After.ne' After.set_eq After.size_set After.lt_add

/-- The slice value v holds the n marks f. -/
def Mks (W : World) (v : Value) (n : Nat) (f : Nat → Nat → Int) : Prop :=
  (∃ a cap, v = .slice a 0 cap ∧ n = 0) ∨ ∃ b off cap, v = .slice (some ⟨b, off, none⟩) n cap ∧ 1 ≤ n ∧ b < W.heap.size ∧ n ≤ cap ∧ cap ≤ 9223372036854775807 ∧ MkCells W b off n f

set_option maxHeartbeats 400000 in
theorem valid_empty (a : Option Addr) (cap : Nat) (w : World) :
    Calls Try.prog 19 #[.slice a 0 cap] w fun e w' => e = .returned (.bool false) ∧ Below w.heap.size w w' := by
  go_enter Try.func19, Try.ntmps19
  go_wp2
  go_loopw [7] (fun i wr => i = .int .i64 0 ∧ ∃ x : After w, wr = x.w) (fun _ _ => 0)
  case atStart => exact ⟨rfl, ⟨w, Below.refl _ _⟩, rfl⟩
  case round =>
    obtain ⟨rfl, x, rfl⟩ := hrel
    go_wp2
    go_ret
    exact ⟨rfl, by (repeat' (first | (with_reducible exact Below.refl _ _) | (with_reducible assumption) | (with_reducible refine Below.alloc ?_ ?_ _) | (with_reducible refine Below.drew ?_) | (with_reducible refine below_drewN ?_ _) | (with_reducible refine Below.setCell ?_ ?_ _) | (with_reducible refine below_after ?_ ?_ _) | (with_reducible refine below_set ?_) | (with_reducible refine After.size_le _ ?_) | (with_reducible refine size_alloc_le ?_) | (with_reducible refine size_set_le ?_) | (with_reducible refine size_drewN_le ?_) | go_size))⟩
set_option maxHeartbeats 400000 in
theorem rvalid_empty (a : Option Addr) (cap : Nat) (w : World) :
    Calls Try.prog 20 #[.slice a 0 cap] w fun e w' => e = .returned (.bool false) ∧ Below w.heap.size w w' := by
  go_enter Try.func20, Try.ntmps20
  go_wp2
  go_loopw [3] (fun i wr => i = .int .i64 0 ∧ ∃ x : After w, wr = x.w) (fun _ _ => 0)
  case atStart => exact ⟨rfl, ⟨w, Below.refl _ _⟩, rfl⟩
  case round =>
    obtain ⟨rfl, x, rfl⟩ := hrel
    go_wp2
    go_ret
    exact ⟨rfl, by (repeat' (first | (with_reducible exact Below.refl _ _) | (with_reducible assumption) | (with_reducible refine Below.alloc ?_ ?_ _) | (with_reducible refine Below.drew ?_) | (with_reducible refine below_drewN ?_ _) | (with_reducible refine Below.setCell ?_ ?_ _) | (with_reducible refine below_after ?_ ?_ _) | (with_reducible refine below_set ?_) | (with_reducible refine After.size_le _ ?_) | (with_reducible refine size_alloc_le ?_) | (with_reducible refine size_set_le ?_) | (with_reducible refine size_drewN_le ?_) | go_size))⟩

theorem not_goodM_zero {f : Nat → Nat → Int} : ¬ GoodM 0 f := fun h => by have := h.1; omega
theorem say_mks {w : World} {v : Value} {n : Nat} {f : Nat → Nat → Int} (h : Mks w v n f) (hl : n ≤ 100) : MSay w v (decide (GoodM n f)) := by
  intro W hW
  rcases h with ⟨a, cap, rfl, rfl⟩ | ⟨b, off, cap, rfl, h1, hb, hc, hm, hcc⟩
  · rw [decide_eq_false not_goodM_zero]; exact valid_empty a cap W
  · exact valid_any b off cap n f W (Nat.lt_of_lt_of_le hb hW.size) h1 (by omega) hc hm (hcc.on hb hW)
theorem rsay_mks {w : World} {v : Value} {n : Nat} {f : Nat → Nat → Int} (h : Mks w v n f) (hl : n ≤ 100) : RMSay w v (decide (GoodM n f)) := by
  intro W hW
  rcases h with ⟨a, cap, rfl, rfl⟩ | ⟨b, off, cap, rfl, h1, hb, hc, hm, hcc⟩
  · rw [decide_eq_false not_goodM_zero]; exact rvalid_empty a cap W
  · exact rvalid_any b off cap n f W (Nat.lt_of_lt_of_le hb hW.size) (by omega) (hcc.on hb hW)
theorem mks_good {w : World} {v : Value} {n : Nat} {f : Nat → Nat → Int} (h : Mks w v n f) (hG : GoodM n f) : ∃ b off cap, v = .slice (some ⟨b, off, none⟩) n cap ∧ b < w.heap.size ∧ MkCells w b off n f := by
  rcases h with ⟨a, cap, rfl, rfl⟩ | ⟨b, off, cap, rfl, h1, hb, hc, hm, hcc⟩
  · exact absurd hG not_goodM_zero
  · exact ⟨b, off, cap, rfl, hb, hcc⟩
theorem mks_slice {w : World} {v : Value} {n : Nat} {f : Nat → Nat → Int} (h : Mks w v n f) : ∃ a cap, v = .slice a n cap := by
  rcases h with ⟨a, cap, rfl, rfl⟩ | ⟨b, off, cap, rfl, h1, hb, hc, hm, hcc⟩
  · exact ⟨a, cap, rfl⟩
  · exact ⟨_, cap, rfl⟩

section
variable {H : Type} {enc : TypeId × Value → H} {P : Program} {w : World} {base : Nat} {spare : Nat → Bool} {held : Bool}
/-- A slice of such structs: without an element, or with all its cells. -/
theorem open_rows2 {r : Reach} {b0 : Nat} {t e : TypeId} {fs : Array Field} {k : Nat} {v : Value} {d : DataW H} {p : List MemPlace} (ht : P.underlying t = some (.slice e)) (he : P.underlying e = some (.struct fs)) (hk : 0 < k) (ce : P.cellsOf e = k) (hs : fs.size = k) (hf : intFieldsB P 0 fs.toList = true)
    (hv : Value.okWide P w r b0 t v) (h : DataW.Trod enc P w base spare held t v d p) :
    (∃ a cap, v = .slice a 0 cap) ∨ ∃ (b off len cap : Nat) (V : Nat → Nat → Int), v = .slice (some ⟨b, off, none⟩) len cap ∧ 0 < len ∧ len ≤ cap ∧ cap ≤ maxLen ∧ b < w.heap.size ∧
      ∀ i, i < len → ∀ j, j < k → w.cell? ⟨b, off + i * k + j, none⟩ = some (.int .i64 (V i j)) ∧ (Lit.int .i64 (V i j)).wf = true := by
  obtain ⟨a, len, cap, rfl⟩ := okWide_slice ht hv
  obtain ⟨fuel, h⟩ := h
  rcases open_slice ht h with ⟨h0, _⟩ | ⟨a', len', cap', m, n, D, Pl, h0, hb, hl, hm, hmm, _, hx⟩
  · simp [Value.cells] at h0
    obtain ⟨rfl, rfl, rfl⟩ := h0
    exact .inl ⟨_, _, rfl⟩
  · simp [Value.cells] at h0
    obtain ⟨rfl, rfl, rfl⟩ := h0
    rcases Nat.eq_zero_or_pos len with rfl | hpos
    · exact .inl ⟨_, _, rfl⟩
    right
    have hlm : len ≤ m := by rw [hmm]; split <;> omega
    have each : ∀ i, i < len → ∃ V : Nat → Int, ∀ j, j < k → w.cell? ((a'.add (i * k)).add j) = some (.int .i64 (V j)) ∧ (Lit.int .i64 (V j)).wf = true := by
      intro i hi
      obtain ⟨cs, h1, h2⟩ := hx i (by omega)
      rw [ce] at h1
      exact open_fields he hs hf h1 h2
    obtain ⟨V, hV⟩ := choose_lt each
    have g0 := (hV 0 hpos 0 hk).1
    obtain ⟨b, off, sp⟩ := a'
    have hsp : sp = none := by simpa [Addr.add] using World.cell?_spot g0
    subst hsp
    refine ⟨b, off, len, cap, V, rfl, hpos, by omega, by omega, World.block_lt_of_cell? w _ (by simpa [add_plain] using g0), fun i hi j hj => ?_⟩
    have := hV i hi j hj
    simpa [add_plain] using this
end
section
variable {H : Type} {enc : TypeId × Value → H} {w : World} {base : Nat} {spare : Nat → Bool} {held : Bool}
set_option maxRecDepth 100000 in
theorem open_mks {v : Value} {d : DataW H} {p : List MemPlace} {r : Reach} {b0 : Nat} (hv : Value.okWide Try.prog w r b0 22 v) (h : DataW.Trod enc Try.prog w base spare held 22 v d p) :
    ∃ nf : Nat × (Nat → Nat → Int), Mks w v nf.1 nf.2 ∧ True := by
  rcases open_rows2 (k := 3) Try.underlying22 Try.underlying71 (by omega) cellsMark (by kernel_rfl) (by kernel_rfl) hv h with ⟨a, cap, rfl⟩ | ⟨b, off, len, cap, V, rfl, h0, hm, hcm, hb, hc⟩
  · exact ⟨(0, fun _ _ => 0), .inl ⟨a, cap, rfl, rfl⟩, trivial⟩
  · exact ⟨(len, V), .inr ⟨b, off, cap, rfl, h0, hb, hm, by unfold maxLen at hcm; exact hcm, fun i hi => ⟨by simpa using (hc i hi 0 (by omega)).1, (hc i hi 1 (by omega)).1, (hc i hi 2 (by omega)).1⟩⟩, trivial⟩
end
end Go.Proofs.Ytdhobjflfhijjaa
