/- Offsets of a survey: the program's East and North. -/
import Derived.Test.YtdhobjflfhijjaaMkArg
import Derived.Laws.MakeOwn
namespace Go.Proofs.Ytdhobjflfhijjaa
open Go.RowKit
attribute [local go_sem] After.cell After.frozen After.lt After.le After.ne After.ne' After.set_eq After.size_set After.lt_add

set_option maxRecDepth 100000 in
theorem east_any (h e n : Int) (w : World) :
    Calls Try.prog 58 #[.agg #[.int .i64 h, .int .i64 e, .int .i64 n]] w fun x w' => x = .returned (.agg #[.int .i64 h, .int .i64 e]) ∧ Below w.heap.size w w' := by
  go_enter Try.func58, Try.ntmps58
  go_wp2
  go_returns
  exact ⟨rfl, by (repeat' (first | (with_reducible exact Below.refl _ _) | (with_reducible assumption) | (with_reducible refine Below.alloc ?_ ?_ _) | (with_reducible refine Below.drew ?_) | (with_reducible refine below_drewN ?_ _) | (with_reducible refine Below.setCell ?_ ?_ _) | (with_reducible refine below_after ?_ ?_ _) | (with_reducible refine below_set ?_) | (with_reducible refine After.size_le _ ?_) | (with_reducible refine size_alloc_le ?_) | (with_reducible refine size_set_le ?_) | (with_reducible refine size_drewN_le ?_) | go_size))⟩
set_option maxRecDepth 100000 in
theorem north_any (h e n : Int) (w : World) :
    Calls Try.prog 62 #[.agg #[.int .i64 h, .int .i64 e, .int .i64 n]] w fun x w' => x = .returned (.agg #[.int .i64 h, .int .i64 n]) ∧ Below w.heap.size w w' := by
  go_enter Try.func62, Try.ntmps62
  go_wp2
  go_returns
  exact ⟨rfl, by (repeat' (first | (with_reducible exact Below.refl _ _) | (with_reducible assumption) | (with_reducible refine Below.alloc ?_ ?_ _) | (with_reducible refine Below.drew ?_) | (with_reducible refine below_drewN ?_ _) | (with_reducible refine Below.setCell ?_ ?_ _) | (with_reducible refine below_after ?_ ?_ _) | (with_reducible refine below_set ?_) | (with_reducible refine After.size_le _ ?_) | (with_reducible refine size_alloc_le ?_) | (with_reducible refine size_set_le ?_) | (with_reducible refine size_drewN_le ?_) | go_size))⟩

/-- The slice value v owns the n points f, in a block from base on. -/
def PtRow (W : World) (base : Nat) (v : Value) (n : Nat) (f : Nat → Nat → Int) : Prop :=
  ∃ g cap, v = .slice (some ⟨g, 0, none⟩) n cap ∧ base ≤ g ∧ g < W.heap.size ∧ ∀ i, i < n → W.cell? ⟨g, i * 2, none⟩ = some (.int .i64 (f i 0)) ∧ W.cell? ⟨g, i * 2 + 1, none⟩ = some (.int .i64 (f i 1))

theorem ptInfo2 : (Try.prog.info? 37).map (fun i => (i.zero, i.size, i.bytes)) = some (some (.agg #[.int .i64 0, .int .i64 0]), 2, 16) := by kernel_rfl
/-- A block of the call's own whose first k points are filled. -/
structure Fill (W : World) (g n k : Nat) (f : Nat → Nat → Int) : Prop where
  lt : g < W.heap.size
  some_ : ∀ j, j < n * 2 → ∃ u, W.cell? ⟨g, j, none⟩ = some u
  free : ∀ o, W.frozen? ⟨g, o, none⟩ = false
  got : ∀ i, i < k → W.cell? ⟨g, i * 2, none⟩ = some (.int .i64 (f i 0)) ∧ W.cell? ⟨g, i * 2 + 1, none⟩ = some (.int .i64 (f i 1))
theorem Fill.below {W W' : World} {g n k : Nat} {f : Nat → Nat → Int} (h : Fill W g n k f) (hb : Below W.heap.size W W') : Fill W' g n k f :=
  ⟨Nat.lt_of_lt_of_le h.lt hb.size, fun j hj => by obtain ⟨u, hu⟩ := h.some_ j hj; exact ⟨u, (hb.cell (p := ⟨g, j, none⟩) h.lt).trans hu⟩, fun o => (hb.frozen (p := ⟨g, o, none⟩) h.lt).trans (h.free o),
    fun i hi => ⟨(hb.cell (p := ⟨g, _, none⟩) h.lt).trans (h.got i hi).1, (hb.cell (p := ⟨g, _, none⟩) h.lt).trans (h.got i hi).2⟩⟩
theorem Fill.next {W : World} {g n k : Nat} {f : Nat → Nat → Int} (h : Fill W g n k f) (hk : k < n) :
    Fill ((W.setCell ⟨g, k * 2, none⟩ (.int .i64 (f k 0))).setCell ⟨g, k * 2 + 1, none⟩ (.int .i64 (f k 1))) g n (k + 1) f := by
  obtain ⟨u0, h0⟩ := h.some_ (k * 2) (by omega)
  obtain ⟨u1, h1⟩ := h.some_ (k * 2 + 1) (by omega)
  have ne : (⟨g, k * 2 + 1, none⟩ : Addr) ≠ ⟨g, k * 2, none⟩ := by simp
  have a0 : (W.setCell ⟨g, k * 2, none⟩ (.int .i64 (f k 0))).cell? ⟨g, k * 2, none⟩ = some (.int .i64 (f k 0)) := World.cell?_setCell_same _ _ _ h0
  have a1 : (W.setCell ⟨g, k * 2, none⟩ (.int .i64 (f k 0))).cell? ⟨g, k * 2 + 1, none⟩ = some u1 := (World.cell?_setCell_other _ _ _ _ ne.symm).trans h1
  refine ⟨by simpa using h.lt, fun j hj => ?_, fun o => by simpa using h.free o, fun i hi => ?_⟩
  · by_cases e1 : j = k * 2 + 1
    · subst e1; exact ⟨_, World.cell?_setCell_same _ _ _ a1⟩
    · rw [World.cell?_setCell_other _ _ _ _ (by first | (simp; done) | (simp; omega))]
      by_cases e0 : j = k * 2
      · subst e0; exact ⟨_, a0⟩
      · rw [World.cell?_setCell_other _ _ _ _ (by first | (simp; done) | (simp; omega))]
        exact h.some_ j hj
  · rcases Nat.lt_or_ge i k with h2 | h2
    · obtain ⟨g0, g1⟩ := h.got i h2
      refine ⟨?_, ?_⟩
      · rw [World.cell?_setCell_other _ _ _ _ (by first | (simp; done) | (simp; omega)), World.cell?_setCell_other _ _ _ _ (by first | (simp; done) | (simp; omega))]; exact g0
      · rw [World.cell?_setCell_other _ _ _ _ (by first | (simp; done) | (simp; omega)), World.cell?_setCell_other _ _ _ _ (by first | (simp; done) | (simp; omega))]; exact g1
    · obtain rfl : i = k := by omega
      exact ⟨(World.cell?_setCell_other _ _ _ _ ne).trans a0, World.cell?_setCell_same _ _ _ a1⟩

set_option maxRecDepth 100000 in
set_option maxHeartbeats 1000000 in
theorem offsets_east (b off cap n : Nat) (f : Nat → Nat → Int) (w : World) (hb : b < w.heap.size) (hn : n ≤ 40) (hc : MkCells w b off n f)
    (ha : MSay w (.slice (some ⟨b, off, none⟩) n cap) true) :
    Calls Try.prog 57 #[.slice (some ⟨b, off, none⟩) n cap, .func (.func 58) #[] #[]] w fun x w' => ∃ v, x = .returned (.tuple #[v, .int .i64 0]) ∧ PtRow w' w.heap.size v n (fun i j => if j = 0 then f i 0 else f i 1) ∧ Below w.heap.size w w' := by
  have HA : Hid (∀ W, Below w.heap.size w W → _) := ha
  have HC := Lib.hid hc
  have HF := Lib.hid (fun (i : Nat) (W : World) => east_any (f i 0) (f i 1) (f i 2) W)
  clear ha hc
  obtain ⟨i0, hi, hz0, hz1, hz2⟩ := info_parts ptInfo2
  have hmk := fun w' => run_make (P := Try.prog) w' 24 37 i0 _ Try.underlying24 hi hz0 .i64 .i64 (n : Int) (n : Int) (by omega) (by omega) (by rw [hz2]; omega) (by omega)
  rw [hz1] at hmk
  simp only [Int.toNat_natCast] at hmk
  go_enter Try.func57, Try.ntmps57
  (go_wp2_with fail); refine calls_after (HA.out _ (by (repeat' (first | (with_reducible exact Below.refl _ _) | (with_reducible assumption) | (with_reducible refine Below.alloc ?_ ?_ _) | (with_reducible refine Below.drew ?_) | (with_reducible refine below_drewN ?_ _) | (with_reducible refine Below.setCell ?_ ?_ _) | (with_reducible refine below_after ?_ ?_ _) | (with_reducible refine below_set ?_) | (with_reducible refine After.size_le _ ?_) | (with_reducible refine size_alloc_le ?_) | (with_reducible refine size_set_le ?_) | (with_reducible refine size_drewN_le ?_) | go_size)))) ?_; intro x1; have hz_x1 := x1.out.size; (try simp only [World.size_alloc] at hz_x1); (try simp only [World.size_setCell] at hz_x1); have k0_x1 : b < x1.w.heap.size := (by omega); have j0_x1 : b < x1.w.heap.size + 1 := (by omega)
  clear HA
  go_wp2
  clear hmk
  obtain ⟨W1, hW1⟩ : ∃ W1, x1.w.alloc (.cells (madeCells #[.int .i64 0, .int .i64 0] (n * 2)) 37) = W1 := ⟨_, rfl⟩
  have hsx := x1.out.size
  have hB1 : Below w.heap.size w W1 := by rw [← hW1]; exact x1.out.alloc hsx _
  have hF1 : Fill W1 x1.w.heap.size n 0 (fun i j => if j = 0 then f i 0 else f i 1) := by
    rw [← hW1]
    refine ⟨by simp, fun j hj => ?_, fun o => by simp [go_sem], fun i hi => absurd hi (by omega)⟩
    have := cell_of_row (x1.w.alloc (.cells (madeCells #[.int .i64 0, .int .i64 0] (n * 2)) 37)) x1.w.heap.size j _ _ _ (heap_alloc_new x1.w _)
    rw [this]
    exact ⟨_, Array.getElem?_eq_getElem (by simpa [madeCells] using hj)⟩
  rw [hW1]
  generalize x1.w.heap.size = g at *
  clear hW1 hz_x1 k0_x1 j0_x1
  go_loopw [17] (fun i wr => ∃ k : Nat, k ≤ n ∧ i = .int .i64 k ∧ Fill wr g n k (fun i j => if j = 0 then f i 0 else f i 1) ∧ Below w.heap.size w wr) (fun i _ => n - (intOf i).toNat)
  case atStart => exact ⟨0, by omega, rfl, hF1, hB1⟩
  case round =>
    obtain ⟨k, hk, rfl, hfill, hbel⟩ := hrel
    by_cases hlt : k < n
    · obtain ⟨c1, c2, c3⟩ := HC.out k hlt
      have c1 := (hbel.cell (p := ⟨b, _, none⟩) hb).trans c1
      have c2 := (hbel.cell (p := ⟨b, _, none⟩) hb).trans c2
      have c3 := (hbel.cell (p := ⟨b, _, none⟩) hb).trans c3
      have hbk := Nat.lt_of_lt_of_le hb hbel.size
      have HFk := Lib.hid (HF.out k)
      (go_wp2_with fail); refine calls_after (HFk.out _) ?_; intro y
      have hf2 := (hfill.below ((Below.refl _ wr).alloc (Nat.le_refl _) (.cells #[.int .i64 (f k 0), .int .i64 (f k 1), .int .i64 (f k 2)] 71))).below y.out
      have hb2 := (hbel.alloc hbel.size (.cells #[.int .i64 (f k 0), .int .i64 (f k 1), .int .i64 (f k 2)] 71)).trans (y.out.mono (by simp; have := hbel.size; omega))
      obtain ⟨u0, e0⟩ := hf2.some_ (k * 2) (by omega)
      obtain ⟨u1, e1⟩ := hf2.some_ (k * 2 + 1) (by omega)
      have fr := hf2.free
      have HF2 := Lib.hid hf2
      have HB2 := Lib.hid hb2
      clear hf2 hb2 hfill hbel
      generalize y.w = Y at e0 e1 fr HF2 HB2 ⊢
      go_wp2
      go_roundw
      case rel => exact ⟨k + 1, by omega, by go_num, HF2.out.next hlt, (HB2.out.setCell hsx _).setCell hsx _⟩
      case measure => simp [intOf]; omega
    · obtain rfl : n = k := by omega
      have HO := Lib.hid hfill
      have HBl := Lib.hid hbel
      clear hfill hbel
      go_wp2
      go_returns
      exact ⟨_, rfl, ⟨g, _, rfl, hsx, HO.out.lt, HO.out.got⟩, HBl.out⟩
set_option maxRecDepth 100000 in
set_option maxHeartbeats 1000000 in
theorem offsets_north (b off cap n : Nat) (f : Nat → Nat → Int) (w : World) (hb : b < w.heap.size) (hn : n ≤ 40) (hc : MkCells w b off n f)
    (ha : MSay w (.slice (some ⟨b, off, none⟩) n cap) true) :
    Calls Try.prog 57 #[.slice (some ⟨b, off, none⟩) n cap, .func (.func 62) #[] #[]] w fun x w' => ∃ v, x = .returned (.tuple #[v, .int .i64 0]) ∧ PtRow w' w.heap.size v n (fun i j => if j = 0 then f i 0 else f i 2) ∧ Below w.heap.size w w' := by
  have HA : Hid (∀ W, Below w.heap.size w W → _) := ha
  have HC := Lib.hid hc
  have HF := Lib.hid (fun (i : Nat) (W : World) => north_any (f i 0) (f i 1) (f i 2) W)
  clear ha hc
  obtain ⟨i0, hi, hz0, hz1, hz2⟩ := info_parts ptInfo2
  have hmk := fun w' => run_make (P := Try.prog) w' 24 37 i0 _ Try.underlying24 hi hz0 .i64 .i64 (n : Int) (n : Int) (by omega) (by omega) (by rw [hz2]; omega) (by omega)
  rw [hz1] at hmk
  simp only [Int.toNat_natCast] at hmk
  go_enter Try.func57, Try.ntmps57
  (go_wp2_with fail); refine calls_after (HA.out _ (by (repeat' (first | (with_reducible exact Below.refl _ _) | (with_reducible assumption) | (with_reducible refine Below.alloc ?_ ?_ _) | (with_reducible refine Below.drew ?_) | (with_reducible refine below_drewN ?_ _) | (with_reducible refine Below.setCell ?_ ?_ _) | (with_reducible refine below_after ?_ ?_ _) | (with_reducible refine below_set ?_) | (with_reducible refine After.size_le _ ?_) | (with_reducible refine size_alloc_le ?_) | (with_reducible refine size_set_le ?_) | (with_reducible refine size_drewN_le ?_) | go_size)))) ?_; intro x1; have hz_x1 := x1.out.size; (try simp only [World.size_alloc] at hz_x1); (try simp only [World.size_setCell] at hz_x1); have k0_x1 : b < x1.w.heap.size := (by omega); have j0_x1 : b < x1.w.heap.size + 1 := (by omega)
  clear HA
  go_wp2
  clear hmk
  obtain ⟨W1, hW1⟩ : ∃ W1, x1.w.alloc (.cells (madeCells #[.int .i64 0, .int .i64 0] (n * 2)) 37) = W1 := ⟨_, rfl⟩
  have hsx := x1.out.size
  have hB1 : Below w.heap.size w W1 := by rw [← hW1]; exact x1.out.alloc hsx _
  have hF1 : Fill W1 x1.w.heap.size n 0 (fun i j => if j = 0 then f i 0 else f i 2) := by
    rw [← hW1]
    refine ⟨by simp, fun j hj => ?_, fun o => by simp [go_sem], fun i hi => absurd hi (by omega)⟩
    have := cell_of_row (x1.w.alloc (.cells (madeCells #[.int .i64 0, .int .i64 0] (n * 2)) 37)) x1.w.heap.size j _ _ _ (heap_alloc_new x1.w _)
    rw [this]
    exact ⟨_, Array.getElem?_eq_getElem (by simpa [madeCells] using hj)⟩
  rw [hW1]
  generalize x1.w.heap.size = g at *
  clear hW1 hz_x1 k0_x1 j0_x1
  go_loopw [17] (fun i wr => ∃ k : Nat, k ≤ n ∧ i = .int .i64 k ∧ Fill wr g n k (fun i j => if j = 0 then f i 0 else f i 2) ∧ Below w.heap.size w wr) (fun i _ => n - (intOf i).toNat)
  case atStart => exact ⟨0, by omega, rfl, hF1, hB1⟩
  case round =>
    obtain ⟨k, hk, rfl, hfill, hbel⟩ := hrel
    by_cases hlt : k < n
    · obtain ⟨c1, c2, c3⟩ := HC.out k hlt
      have c1 := (hbel.cell (p := ⟨b, _, none⟩) hb).trans c1
      have c2 := (hbel.cell (p := ⟨b, _, none⟩) hb).trans c2
      have c3 := (hbel.cell (p := ⟨b, _, none⟩) hb).trans c3
      have hbk := Nat.lt_of_lt_of_le hb hbel.size
      have HFk := Lib.hid (HF.out k)
      (go_wp2_with fail); refine calls_after (HFk.out _) ?_; intro y
      have hf2 := (hfill.below ((Below.refl _ wr).alloc (Nat.le_refl _) (.cells #[.int .i64 (f k 0), .int .i64 (f k 1), .int .i64 (f k 2)] 71))).below y.out
      have hb2 := (hbel.alloc hbel.size (.cells #[.int .i64 (f k 0), .int .i64 (f k 1), .int .i64 (f k 2)] 71)).trans (y.out.mono (by simp; have := hbel.size; omega))
      obtain ⟨u0, e0⟩ := hf2.some_ (k * 2) (by omega)
      obtain ⟨u1, e1⟩ := hf2.some_ (k * 2 + 1) (by omega)
      have fr := hf2.free
      have HF2 := Lib.hid hf2
      have HB2 := Lib.hid hb2
      clear hf2 hb2 hfill hbel
      generalize y.w = Y at e0 e1 fr HF2 HB2 ⊢
      go_wp2
      go_roundw
      case rel => exact ⟨k + 1, by omega, by go_num, HF2.out.next hlt, (HB2.out.setCell hsx _).setCell hsx _⟩
      case measure => simp [intOf]; omega
    · obtain rfl : n = k := by omega
      have HO := Lib.hid hfill
      have HBl := Lib.hid hbel
      clear hfill hbel
      go_wp2
      go_returns
      exact ⟨_, rfl, ⟨g, _, rfl, hsx, HO.out.lt, HO.out.got⟩, HBl.out⟩
end Go.Proofs.Ytdhobjflfhijjaa
