/- Marks of the call's own, and SameMarks: for the seat of the texts (after L1's XTests, XSame, XLawSurveys). -/
import Derived.Test.YtldopcneellfbaaGreatDoorMkt
namespace Go.Proofs.YtldopcneellfbaaGreatDoor
open Go.RowKit

def eq3 (a b d a' b' d' : Int) : Bool := decide (a = a' ∧ b = b' ∧ d = d')
theorem eq3_self (a b d : Int) : eq3 a b d a b d = true := by simp [eq3]
theorem eql_mark (a b d a' b' d' : Int) (w : World) : (binOp .eql 40 (.agg #[.int .i64 a, .int .i64 b, .int .i64 d]) (.agg #[.int .i64 a', .int .i64 b', .int .i64 d'])).run Tryz.prog w = .ok (.bool (eq3 a b d a' b' d')) w := by
  rw [run_eql_struct]
  go_simp
  by_cases h1 : a = a' <;> by_cases h2 : b = b' <;> by_cases h3 : d = d' <;> simp [h1, h2, h3, eq3]
theorem neq_mark (a b d a' b' d' : Int) (w : World) : (binOp .neq 40 (.agg #[.int .i64 a, .int .i64 b, .int .i64 d]) (.agg #[.int .i64 a', .int .i64 b', .int .i64 d'])).run Tryz.prog w = .ok (.bool (!eq3 a b d a' b' d')) w := by
  rw [run_neq_struct]
  go_simp
  by_cases h1 : a = a' <;> by_cases h2 : b = b' <;> by_cases h3 : d = d' <;> simp [h1, h2, h3, eq3]
attribute [local go_sem 10000] eql_mark neq_mark
attribute [local go_sem] After.cell After.frozen After.lt After.le After.ne After.ne' After.set_eq After.size_set After.lt_add eq3_self

set_option maxHeartbeats 400000 in
theorem sameMarks_nil (a a' : Option Addr) (c c' : Nat) (w : World) :
    Calls Tryz.prog 7 #[.slice a 0 c, .slice a' 0 c'] w fun e w' => e = .returned (.bool true) ∧ Below w.heap.size w w' := by
  go_enter Tryz.func7, Tryz.ntmps7
  go_wp2
  go_loopw [5] (fun i wr => i = .int .i64 0 ∧ ∃ x : After w, wr = x.w) (fun _ _ => 0)
  case atStart => exact ⟨rfl, ⟨w, Below.refl _ _⟩, rfl⟩
  case round =>
    obtain ⟨rfl, x, rfl⟩ := hrel
    go_wp2
    go_ret
    exact ⟨rfl, by (repeat' (first | (with_reducible exact Below.refl _ _) | (with_reducible assumption) | (with_reducible refine Below.alloc ?_ ?_ _) | (with_reducible refine Below.drew ?_) | (with_reducible refine below_drewN ?_ _) | (with_reducible refine Below.setCell ?_ ?_ _) | (with_reducible refine below_after ?_ ?_ _) | (with_reducible refine below_set ?_) | (with_reducible refine After.size_le _ ?_) | (with_reducible refine size_alloc_le ?_) | (with_reducible refine size_set_le ?_) | (with_reducible refine size_drewN_le ?_) | go_size))⟩

/-- A block of the call's own that holds n marks. -/
structure FillM (W : World) (g n : Nat) (f : Nat → Nat → Int) : Prop where
  lt : g < W.heap.size
  free : ∀ o, W.frozen? ⟨g, o, none⟩ = false
  got : ∀ i, i < n → W.cell? ⟨g, i * 3, none⟩ = some (.int .i64 (f i 0)) ∧ W.cell? ⟨g, i * 3 + 1, none⟩ = some (.int .i64 (f i 1)) ∧ W.cell? ⟨g, i * 3 + 2, none⟩ = some (.int .i64 (f i 2))
theorem FillM.below {W W' : World} {g n : Nat} {f : Nat → Nat → Int} (h : FillM W g n f) (hb : Below W.heap.size W W') : FillM W' g n f :=
  ⟨Nat.lt_of_lt_of_le h.lt hb.size, fun o => (hb.frozen (p := ⟨g, o, none⟩) h.lt).trans (h.free o),
    fun i hi => ⟨(hb.cell (p := ⟨g, _, none⟩) h.lt).trans (h.got i hi).1, (hb.cell (p := ⟨g, _, none⟩) h.lt).trans (h.got i hi).2.1, (hb.cell (p := ⟨g, _, none⟩) h.lt).trans (h.got i hi).2.2⟩⟩
theorem FillM.mk' {W : World} {g n : Nat} {f : Nat → Nat → Int} (h : FillM W g n f) : MkCells W g 0 n f := fun i hi => by simpa using h.got i hi

set_option maxRecDepth 100000 in
set_option maxHeartbeats 1000000 in
theorem sameMarks_row (g g' n c c' : Nat) (f : Nat → Nat → Int) (w : World) (h : FillM w g n f) (h' : FillM w g' n f) (hn : n ≤ 1000) :
    Calls Tryz.prog 7 #[.slice (some ⟨g, 0, none⟩) n c, .slice (some ⟨g', 0, none⟩) n c'] w fun e w' => e = .returned (.bool true) ∧ Below w.heap.size w w' := by
  have HC := Lib.hid h.got
  have HC' := Lib.hid h'.got
  have hb := h.lt
  have hb' := h'.lt
  clear h h'
  go_enter Tryz.func7, Tryz.ntmps7
  go_wp2
  go_loopw [5] (fun i wr => ∃ k : Nat, k ≤ n ∧ i = .int .i64 k ∧ ∃ x : After w, wr = x.w) (fun i _ => n - (intOf i).toNat)
  case atStart => exact ⟨0, by omega, rfl, ⟨w, Below.refl _ _⟩, rfl⟩
  case round =>
    obtain ⟨k, hk, rfl, x, rfl⟩ := hrel
    by_cases hlt : k < n
    · obtain ⟨c1, c2, c3⟩ := HC.out k hlt
      obtain ⟨d1, d2, d3⟩ := HC'.out k hlt
      go_wp2
      refine wp_region_after (by kernel_rfl) (by kernel_rfl) ?_; (repeat (first | go_big_quiet_step ((fail)) | (refine wpQuiet_step (fun K hK => ?_); go_simp; first | (refine hK _ ?_; clear hK K) | (apply Exists.intro; refine ⟨fun x => ?_, hK _ ?_⟩; (fail); clear hK K)))); refine wpQuiet_nil ?_
      intro y
      go_wp2
      go_roundw
      case rel => exact ⟨k + 1, by omega, by go_num, ⟨_, x.out.trans (y.out.mono x.out.size)⟩, rfl⟩
      case measure => simp [intOf]; omega
    · obtain rfl : n = k := by omega
      go_wp2
      go_ret
      exact ⟨rfl, by (repeat' (first | (with_reducible exact Below.refl _ _) | (with_reducible assumption) | (with_reducible refine Below.alloc ?_ ?_ _) | (with_reducible refine Below.drew ?_) | (with_reducible refine below_drewN ?_ _) | (with_reducible refine Below.setCell ?_ ?_ _) | (with_reducible refine below_after ?_ ?_ _) | (with_reducible refine below_set ?_) | (with_reducible refine After.size_le _ ?_) | (with_reducible refine size_alloc_le ?_) | (with_reducible refine size_set_le ?_) | (with_reducible refine size_drewN_le ?_) | go_size))⟩

def mcs (n : Nat) (F : Nat → Nat → Int) : List Value := (List.range n).flatMap fun i => [.int .i64 (F i 0), .int .i64 (F i 1), .int .i64 (F i 2)]
theorem mcs_succ (n : Nat) (F : Nat → Nat → Int) : mcs (n + 1) F = mcs n F ++ [.int .i64 (F n 0), .int .i64 (F n 1), .int .i64 (F n 2)] := by
  unfold mcs; rw [List.range_succ, List.flatMap_append]; simp
theorem mcs_len (n : Nat) (F : Nat → Nat → Int) : (mcs n F).length = n * 3 := by
  induction n with
  | zero => rfl
  | succ n ih => rw [mcs_succ, List.length_append, ih]; simp; omega
theorem mcs_get (F : Nat → Nat → Int) : ∀ {n i : Nat}, i < n → (mcs n F)[i * 3]? = some (.int .i64 (F i 0)) ∧ (mcs n F)[i * 3 + 1]? = some (.int .i64 (F i 1)) ∧ (mcs n F)[i * 3 + 2]? = some (.int .i64 (F i 2))
  | n + 1, i, h => by
    rw [mcs_succ]
    rcases Nat.lt_or_ge i n with h1 | h1
    · rw [List.getElem?_append_left (by rw [mcs_len]; omega), List.getElem?_append_left (by rw [mcs_len]; omega), List.getElem?_append_left (by rw [mcs_len]; omega)]
      exact mcs_get F h1
    · obtain rfl : i = n := by omega
      rw [List.getElem?_append_right (by rw [mcs_len]; omega), List.getElem?_append_right (by rw [mcs_len]; omega), List.getElem?_append_right (by rw [mcs_len]; omega), mcs_len]
      rw [show i * 3 - i * 3 = 0 by omega, show i * 3 + 1 - i * 3 = 1 by omega, show i * 3 + 2 - i * 3 = 2 by omega]
      exact ⟨rfl, rfl, rfl⟩
theorem mcs_cells {W : World} {b off n : Nat} {f : Nat → Nat → Int} (h : MkCells W b off n f) : ∀ j u, (mcs n f)[j]? = some u → W.cell? ((⟨b, off, none⟩ : Addr).add j) = some u := by
  intro j u hu
  have hj : j < n * 3 := by
    have := (List.getElem?_eq_some_iff.1 hu).1
    rwa [mcs_len] at this
  have ha : (⟨b, off, none⟩ : Addr).add j = ⟨b, off + j, none⟩ := by simp [Addr.add]
  rw [ha]
  obtain ⟨g0, g1, g2⟩ := mcs_get f (n := n) (i := j / 3) (by omega)
  obtain ⟨c0, c1, c2⟩ := h (j / 3) (by omega)
  rcases (show j = j / 3 * 3 ∨ j = j / 3 * 3 + 1 ∨ j = j / 3 * 3 + 2 by omega) with e | e | e
  · rw [e] at hu ⊢; rw [g0] at hu; rw [c0]; exact hu
  · rw [e] at hu ⊢; rw [g1] at hu; rw [← Nat.add_assoc, c1]; exact hu
  · rw [e] at hu ⊢; rw [g2] at hu; rw [← Nat.add_assoc, c2]; exact hu
theorem mcs_one (n : Nat) (f : Nat → Nat → Int) : ∀ u ∈ mcs n f, u.oneCell' = true := by
  intro u hu
  unfold mcs at hu
  simp only [List.mem_flatMap, List.mem_cons, List.not_mem_nil, or_false] at hu
  obtain ⟨i, _, rfl | rfl | rfl⟩ := hu <;> rfl
theorem mkInfo : (Tryz.prog.info? 40).map (fun i => (i.zero, i.size, i.bytes)) = some (some (.agg #[.int .i64 0, .int .i64 0, .int .i64 0]), 3, 24) := by kernel_rfl
/-- The slice value v owns the n marks f. -/
def MkOwn (W : World) (base : Nat) (v : Value) (n : Nat) (f : Nat → Nat → Int) : Prop :=
  ∃ g cap, v = .slice (some ⟨g, 0, none⟩) n cap ∧ n ≤ cap ∧ cap ≤ 9223372036854775807 ∧ base ≤ g ∧ FillM W g n f
theorem mkOwn_of {W : World} {base : Nat} {v : Value} {n : Nat} {f : Nat → Nat → Int} (h : W.ownsRow base 40 3 v n (mcs n f)) (hn : 1 ≤ n) : MkOwn W base v n f := by
  obtain ⟨g, cap, rfl⟩ := Go.Joins.ownsRow_form h hn
  refine ⟨g, cap, rfl, ?_, ?_, (h.lt g rfl).1, (h.lt g rfl).2, fun o => h.frozenAt o, fun i hi => ?_⟩
  · rcases h.2 with ⟨e, _⟩ | ⟨g', cap', _, e, _, _, h1, _⟩
    · cases e
    · cases e; exact h1
  · rcases h.2 with ⟨e, _⟩ | ⟨g', cap', _, e, _, _, _, h1, _⟩
    · cases e
    · cases e; unfold maxLen at h1; exact h1
  · rw [h.cellAt _ (by omega), h.cellAt _ (by omega), h.cellAt _ (by omega)]
    exact mcs_get f hi

theorem MkOwn.below {W W' : World} {B : Nat} {v : Value} {n : Nat} {f : Nat → Nat → Int} (h : MkOwn W B v n f) (hb : Below W.heap.size W W') : MkOwn W' B v n f := by
  obtain ⟨g, cap, e, h1, h2, h3, h4⟩ := h
  exact ⟨g, cap, e, h1, h2, h3, h4.below hb⟩
theorem same_mk {W : World} {B B' : Nat} {v v' : Value} {n : Nat} {f : Nat → Nat → Int} (h : MkOwn W B v n f) (h' : MkOwn W B' v' n f) (hn : n ≤ 1000) :
    Calls Tryz.prog 7 #[v, v'] W fun e w' => e = .returned (.bool true) ∧ Below W.heap.size W w' := by
  obtain ⟨g, cap, rfl, _, _, _, h2⟩ := h
  obtain ⟨g', cap', rfl, _, _, _, h2'⟩ := h'
  exact sameMarks_row g g' n cap cap' f W h2 h2' hn
end Go.Proofs.YtldopcneellfbaaGreatDoor
