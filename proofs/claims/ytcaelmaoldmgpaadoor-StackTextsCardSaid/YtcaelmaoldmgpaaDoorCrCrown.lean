/- Courses in a block of the call's own; stacks compared. -/
import Derived.Test.YtcaelmaoldmgpaaDoorCrCsay
import Derived.Laws.AppendOwn
import Derived.Laws.AppendOwnNone
import Derived.Laws.MakeOwn
import Derived.Laws.OwnMore
import Derived.Deep.AppendLies
import Derived.Lib.SmallJoins
import Derived.OwnWalk
namespace Go.Proofs.YtcaelmaoldmgpaaDoor.Cr
open Go.Proofs.YtcaelmaoldmgpaaDoor
open Go.RowKit

def c6 (F : Nat → Int) : List Value := [.int .i64 (F 0), .int .i64 (F 1), .int .i64 (F 2), .int .i64 (F 3), .int .i64 (F 4), .int .i64 (F 5)]
theorem c6_get (F : Nat → Int) {j : Nat} (hj : j < 6) : (c6 F)[j]? = some (.int .i64 (F j)) := by
  rcases (show j = 0 ∨ j = 1 ∨ j = 2 ∨ j = 3 ∨ j = 4 ∨ j = 5 by omega) with rfl | rfl | rfl | rfl | rfl | rfl <;> rfl
def crc (n : Nat) (F : Nat → Nat → Int) : List Value := (List.range n).flatMap fun i => c6 (F i)
theorem crc_succ (n : Nat) (F : Nat → Nat → Int) : crc (n + 1) F = crc n F ++ c6 (F n) := by
  unfold crc; rw [List.range_succ, List.flatMap_append]; simp
theorem crc_len (n : Nat) (F : Nat → Nat → Int) : (crc n F).length = n * 6 := by
  induction n with
  | zero => rfl
  | succ n ih => rw [crc_succ, List.length_append, ih]; simp [c6]; omega
theorem crc_get (F : Nat → Nat → Int) : ∀ {n i j : Nat}, i < n → j < 6 → (crc n F)[i * 6 + j]? = some (.int .i64 (F i j))
  | n + 1, i, j, h, hj => by
    rw [crc_succ]
    rcases Nat.lt_or_ge i n with h1 | h1
    · rw [List.getElem?_append_left (by rw [crc_len]; omega)]
      exact crc_get F h1 hj
    · obtain rfl : i = n := by omega
      rw [List.getElem?_append_right (by rw [crc_len]; omega), crc_len, show i * 6 + j - i * 6 = j by omega]
      exact c6_get _ hj
theorem crc_one (n : Nat) (f : Nat → Nat → Int) : ∀ u ∈ crc n f, u.oneCell' = true := by
  intro u hu
  unfold crc c6 at hu
  simp only [List.mem_flatMap, List.mem_cons, List.not_mem_nil, or_false] at hu
  obtain ⟨i, _, rfl | rfl | rfl | rfl | rfl | rfl⟩ := hu <;> rfl
theorem crc_congr {n : Nat} {f f' : Nat → Nat → Int} (h : ∀ i j, i < n → j < 6 → f i j = f' i j) : crc n f = crc n f' := by
  apply List.ext_getElem?
  intro k
  by_cases hk : k < n * 6
  · have e : k = k / 6 * 6 + k % 6 := by omega
    rw [e, crc_get f (by omega) (by omega), crc_get f' (by omega) (by omega), h _ _ (by omega) (by omega)]
  · rw [List.getElem?_eq_none (by rw [crc_len]; omega), List.getElem?_eq_none (by rw [crc_len]; omega)]
/-- The courses of one list behind those of another. -/
def crA (n : Nat) (f g : Nat → Nat → Int) : Nat → Nat → Int := fun i => if i < n then f i else g (i - n)
theorem crc_app (n m : Nat) (f g : Nat → Nat → Int) : crc n f ++ crc m g = crc (n + m) (crA n f g) := by
  induction m with
  | zero =>
    rw [show crc 0 g = [] from rfl, List.append_nil]
    exact crc_congr fun i j hi _ => by unfold crA; rw [if_pos hi]
  | succ m ih =>
    rw [crc_succ, ← List.append_assoc, ih, ← Nat.add_assoc, crc_succ]
    have : crA n f g (n + m) = g m := by unfold crA; rw [if_neg (by omega), Nat.add_sub_cancel_left]
    rw [this]
theorem crCells_iff {W : World} {b off n : Nat} {f : Nat → Nat → Int} : CrCells W b off n f ↔ ∀ i, i < n → ∀ j, j < 6 → W.cell? ⟨b, off + (i * 6 + j), none⟩ = some (.int .i64 (f i j)) := by
  constructor
  · intro h i hi j hj
    obtain ⟨h0, h1, h2, h3, h4, h5⟩ := h i hi
    rw [← Nat.add_assoc]
    rcases (show j = 0 ∨ j = 1 ∨ j = 2 ∨ j = 3 ∨ j = 4 ∨ j = 5 by omega) with rfl | rfl | rfl | rfl | rfl | rfl <;> assumption
  · intro h i hi
    simp only [Nat.add_assoc]
    exact ⟨h i hi 0 (by omega), h i hi 1 (by omega), h i hi 2 (by omega), h i hi 3 (by omega), h i hi 4 (by omega), h i hi 5 (by omega)⟩
theorem crc_cells {W : World} {b off n : Nat} {f : Nat → Nat → Int} (h : CrCells W b off n f) : ∀ j u, (crc n f)[j]? = some u → W.cell? ((⟨b, off, none⟩ : Addr).add j) = some u := by
  intro j u hu
  have hj : j < n * 6 := by
    have := (List.getElem?_eq_some_iff.1 hu).1
    rwa [crc_len] at this
  have ha : (⟨b, off, none⟩ : Addr).add j = ⟨b, off + j, none⟩ := by simp [Addr.add]
  have e : j = j / 6 * 6 + j % 6 := by omega
  rw [ha]
  have c := crCells_iff.1 h (j / 6) (by omega) (j % 6) (by omega)
  have g := crc_get f (n := n) (i := j / 6) (j := j % 6) (by omega) (by omega)
  rw [← e] at c g
  rw [g] at hu
  rw [c]; exact hu
theorem crInfo : (Tryd.prog.info? 38).map (fun i => (i.zero, i.size, i.bytes)) = some (some (.agg #[.int .i64 0, .int .i64 0, .int .i64 0, .int .i64 0, .int .i64 0, .int .i64 0]), 6, 48) := by kernel_rfl

/-- A block of the call's own that holds n courses. -/
structure FillC (W : World) (g n : Nat) (f : Nat → Nat → Int) : Prop where
  lt : g < W.heap.size
  free : ∀ o, W.frozen? ⟨g, o, none⟩ = false
  got : ∀ i, i < n → ∀ j, j < 6 → W.cell? ⟨g, i * 6 + j, none⟩ = some (.int .i64 (f i j))
theorem FillC.below {W W' : World} {g n : Nat} {f : Nat → Nat → Int} (h : FillC W g n f) (hb : Below W.heap.size W W') : FillC W' g n f :=
  ⟨Nat.lt_of_lt_of_le h.lt hb.size, fun o => (hb.frozen (p := ⟨g, o, none⟩) h.lt).trans (h.free o), fun i hi j hj => (hb.cell (p := ⟨g, _, none⟩) h.lt).trans (h.got i hi j hj)⟩
theorem FillC.cells {W : World} {g n : Nat} {f : Nat → Nat → Int} (h : FillC W g n f) : CrCells W g 0 n f := crCells_iff.2 fun i hi j hj => by rw [Nat.zero_add]; exact h.got i hi j hj
theorem FillC.congr {W : World} {g n : Nat} {f f' : Nat → Nat → Int} (h : FillC W g n f) (e : ∀ i j, i < n → j < 6 → f i j = f' i j) : FillC W g n f' :=
  ⟨h.lt, h.free, fun i hi j hj => by rw [← e i j hi hj]; exact h.got i hi j hj⟩
/-- The slice value v owns the n courses f. -/
def CrOwn (W : World) (base : Nat) (v : Value) (n : Nat) (f : Nat → Nat → Int) : Prop :=
  ∃ g cap, v = .slice (some ⟨g, 0, none⟩) n cap ∧ n ≤ cap ∧ cap ≤ 9223372036854775807 ∧ base ≤ g ∧ FillC W g n f
theorem crOwn_of {W : World} {base : Nat} {v : Value} {n : Nat} {f : Nat → Nat → Int} (h : W.ownsRow base 38 6 v n (crc n f)) (hn : 1 ≤ n) : CrOwn W base v n f := by
  obtain ⟨g, cap, rfl⟩ := Go.Joins.ownsRow_form h hn
  refine ⟨g, cap, rfl, ?_, ?_, (h.lt g rfl).1, (h.lt g rfl).2, fun o => h.frozenAt o, fun i hi j hj => ?_⟩
  · rcases h.2 with ⟨e, _⟩ | ⟨g', cap', _, e, _, _, h1, _⟩
    · cases e
    · cases e; exact h1
  · rcases h.2 with ⟨e, _⟩ | ⟨g', cap', _, e, _, _, _, h1, _⟩
    · cases e
    · cases e; unfold maxLen at h1; exact h1
  · rw [h.cellAt _ (by omega)]
    exact crc_get f hi hj
/-- A list of courses of the call's own, read; it may be empty. -/
def CRow (W : World) (B : Nat) (v : Value) (n : Nat) (f : Nat → Nat → Int) : Prop :=
  ∃ a cap, v = .slice a n cap ∧ (0 < n → ∃ g, a = some ⟨g, 0, none⟩ ∧ B ≤ g ∧ FillC W g n f)
theorem CrOwn.row {W : World} {base : Nat} {v : Value} {n : Nat} {f : Nat → Nat → Int} (h : CrOwn W base v n f) : CRow W base v n f := by
  obtain ⟨g, cap, rfl, _, _, h1, h2⟩ := h
  exact ⟨_, cap, rfl, fun _ => ⟨g, rfl, h1, h2⟩⟩
theorem crow_nil (W : World) (B : Nat) (f : Nat → Nat → Int) : CRow W B (.slice none 0 0) 0 f := ⟨none, 0, rfl, fun h => by omega⟩
theorem CRow.on {W V : World} {B : Nat} {v : Value} {n : Nat} {f : Nat → Nat → Int} (h : CRow W B v n f) (hV : Below W.heap.size W V) : CRow V B v n f := by
  obtain ⟨a, cap, rfl, h⟩ := h
  refine ⟨a, cap, rfl, fun h0 => ?_⟩
  obtain ⟨g, rfl, h1, h2⟩ := h h0
  exact ⟨g, rfl, h1, h2.below hV⟩
theorem CRow.crs {W : World} {B : Nat} {v : Value} {n : Nat} {f : Nat → Nat → Int} (h : CRow W B v n f) : Crs W W.heap.size v n f := by
  obtain ⟨a, cap, rfl, h⟩ := h
  refine ⟨a, cap, rfl, fun h0 => ?_⟩
  obtain ⟨g, rfl, h1, h2⟩ := h h0
  exact ⟨g, 0, rfl, h2.lt, h2.cells⟩

/-! ### Same -/
def eq6 (a0 a1 a2 a3 a4 a5 b0 b1 b2 b3 b4 b5 : Int) : Bool := decide (a0 = b0 ∧ a1 = b1 ∧ a2 = b2 ∧ a3 = b3 ∧ a4 = b4 ∧ a5 = b5)
theorem eq6_self (a0 a1 a2 a3 a4 a5 : Int) : eq6 a0 a1 a2 a3 a4 a5 a0 a1 a2 a3 a4 a5 = true := by simp [eq6]
theorem neq_course (a0 a1 a2 a3 a4 a5 b0 b1 b2 b3 b4 b5 : Int) (w : World) :
    (binOp .neq 38 (.agg #[.int .i64 a0, .int .i64 a1, .int .i64 a2, .int .i64 a3, .int .i64 a4, .int .i64 a5]) (.agg #[.int .i64 b0, .int .i64 b1, .int .i64 b2, .int .i64 b3, .int .i64 b4, .int .i64 b5])).run Tryd.prog w = .ok (.bool (!eq6 a0 a1 a2 a3 a4 a5 b0 b1 b2 b3 b4 b5)) w := by
  rw [run_neq_struct]
  go_simp
  by_cases h0 : a0 = b0 <;> by_cases h1 : a1 = b1 <;> by_cases h2 : a2 = b2 <;> by_cases h3 : a3 = b3 <;> by_cases h4 : a4 = b4 <;> by_cases h5 : a5 = b5 <;> simp [h0, h1, h2, h3, h4, h5, eq6]
section
attribute [local go_sem 10000] neq_course
attribute [local go_sem] After.cell After.frozen After.lt After.le After.ne After.ne' After.set_eq After.size_set After.lt_add eq6_self

set_option maxHeartbeats 400000 in
theorem same_nil (a a' : Option Addr) (c c' : Nat) (w : World) :
    Calls Tryd.prog 8 #[.slice a 0 c, .slice a' 0 c'] w fun e w' => e = .returned (.bool true) ∧ Below w.heap.size w w' := by
  go_enter Tryd.func8, Tryd.ntmps8
  go_wp2
  go_loopw [5] (fun i wr => i = .int .i64 0 ∧ ∃ x : After w, wr = x.w) (fun _ _ => 0)
  case atStart => exact ⟨rfl, ⟨w, Below.refl _ _⟩, rfl⟩
  case round =>
    obtain ⟨rfl, x, rfl⟩ := hrel
    go_wp2
    go_ret
    exact ⟨rfl, by (repeat' (first | (with_reducible exact Below.refl _ _) | (with_reducible assumption) | (with_reducible refine Below.alloc ?_ ?_ _) | (with_reducible refine Below.drew ?_) | (with_reducible refine below_drewN ?_ _) | (with_reducible refine Below.setCell ?_ ?_ _) | (with_reducible refine below_after ?_ ?_ _) | (with_reducible refine below_set ?_) | (with_reducible refine After.size_le _ ?_) | (with_reducible refine size_alloc_le ?_) | (with_reducible refine size_set_le ?_) | (with_reducible refine size_drewN_le ?_) | go_size))⟩
set_option maxRecDepth 100000 in
set_option maxHeartbeats 1000000 in
theorem same_row (g g' n c c' : Nat) (f : Nat → Nat → Int) (w : World) (h : FillC w g n f) (h' : FillC w g' n f) (hn : n ≤ 1000) :
    Calls Tryd.prog 8 #[.slice (some ⟨g, 0, none⟩) n c, .slice (some ⟨g', 0, none⟩) n c'] w fun e w' => e = .returned (.bool true) ∧ Below w.heap.size w w' := by
  have HC := Lib.hid h.cells
  have HC' := Lib.hid h'.cells
  have hb := h.lt
  have hb' := h'.lt
  clear h h'
  go_enter Tryd.func8, Tryd.ntmps8
  go_wp2
  go_loopw [5] (fun i wr => ∃ k : Nat, k ≤ n ∧ i = .int .i64 k ∧ ∃ x : After w, wr = x.w) (fun i _ => n - (intOf i).toNat)
  case atStart => exact ⟨0, by omega, rfl, ⟨w, Below.refl _ _⟩, rfl⟩
  case round =>
    obtain ⟨k, hk, rfl, x, rfl⟩ := hrel
    by_cases hlt : k < n
    · obtain ⟨c0, c1, c2, c3, c4, c5⟩ := HC.out k hlt
      obtain ⟨d0, d1, d2, d3, d4, d5⟩ := HC'.out k hlt
      simp only [Nat.zero_add] at c0 c1 c2 c3 c4 c5 d0 d1 d2 d3 d4 d5
      go_wp2
      refine wp_region_after (by kernel_rfl) (by kernel_rfl) ?_; (repeat (first | go_big_quiet_step ((fail)) | (refine wpQuiet_step (fun K hK => ?_); go_simp; first | (refine hK _ ?_; clear hK K) | (apply Exists.intro; refine ⟨fun x => ?_, hK _ ?_⟩; (fail); clear hK K)))); refine wpQuiet_nil ?_
      intro y
      go_wp2
      go_roundw
      case rel => exact ⟨k + 1, by omega, by go_num, ⟨_, x.out.trans (y.out.mono x.out.size)⟩, rfl⟩
      case measure => simp [intOf]; omega
    · obtain rfl : n = k := by omega
      go_wp2
      go_ret
      exact ⟨rfl, by (repeat' (first | (with_reducible exact Below.refl _ _) | (with_reducible assumption) | (with_reducible refine Below.alloc ?_ ?_ _) | (with_reducible refine Below.drew ?_) | (with_reducible refine below_drewN ?_ _) | (with_reducible refine Below.setCell ?_ ?_ _) | (with_reducible refine below_after ?_ ?_ _) | (with_reducible refine below_set ?_) | (with_reducible refine After.size_le _ ?_) | (with_reducible refine size_alloc_le ?_) | (with_reducible refine size_set_le ?_) | (with_reducible refine size_drewN_le ?_) | go_size))⟩
end
theorem same_crow {W : World} {B B' : Nat} {v v' : Value} {n : Nat} {f : Nat → Nat → Int} (h : CRow W B v n f) (h' : CRow W B' v' n f) (hn : n ≤ 1000) :
    Calls Tryd.prog 8 #[v, v'] W fun e w' => e = .returned (.bool true) ∧ Below W.heap.size W w' := by
  obtain ⟨a, c, rfl, h⟩ := h
  obtain ⟨a', c', rfl, h'⟩ := h'
  rcases Nat.eq_zero_or_pos n with rfl | h0
  · exact same_nil _ _ _ _ _
  · obtain ⟨g, rfl, -, h2⟩ := h h0
    obtain ⟨g', rfl, -, h4⟩ := h' h0
    exact same_row g g' n c c' f W h2 h4 hn
end Go.Proofs.YtcaelmaoldmgpaaDoor.Cr
