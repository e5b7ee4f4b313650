/- Points raised by a line: the two programs. -/
import Derived.Test.YtdhobjflfhijjaaRaisem
import Derived.Test.YtdhobjflfhijjaaMovedb
import Derived.Test.YtdhobjflfhijjaaOffr
namespace Go.Proofs.Ytdhobjflfhijjaa
open Go.RowKit
attribute [local go_sem] After.cell After.frozen After.lt After.le After.ne After.ne' After.set_eq After.size_set After.lt_add

theorem tdiv_bd {n d : Int} (h1 : -1000000000000000000 ≤ n) (h2 : n ≤ 1000000000000000000) :
    (-1000000000000000000 ≤ n.tdiv d ∧ n.tdiv d ≤ 1000000000000000000) ∧ (n.tdiv d * d = n - n.tmod d) ∧ (-1000000000000000000 ≤ n.tmod d ∧ n.tmod d ≤ 1000000000000000000) := by
  have e := Int.tdiv_mul_add_tmod n d
  have a1 := Int.natAbs_tdiv_le_natAbs n d
  have a2 : (n.tmod d).natAbs ≤ n.natAbs := by rw [Int.natAbs_tmod]; exact Nat.mod_le _ _
  refine ⟨by omega, by omega, by omega⟩
set_option maxRecDepth 100000 in
theorem down_any (n d : Int) (w : World) (h1 : -1000000000000000000 ≤ n) (h2 : n ≤ 1000000000000000000) (h3 : 1 ≤ d) (h4 : d ≤ 1000000000000000000) :
    Calls Try.prog 90 #[.int .i64 n, .int .i64 d] w fun e w' => e = .returned (.int .i64 (downV n d)) ∧ Below w.heap.size w w' := by
  obtain ⟨⟨b1, b1'⟩, b2, b3, b3'⟩ := tdiv_bd (d := d) h1 h2
  unfold downV
  by_cases hm : n.tmod d < 0
  · rw [if_pos hm]
    go_enter Try.func90, Try.ntmps90
    go_wp2
    go_ret
    exact ⟨rfl, by (repeat' (first | (with_reducible exact Below.refl _ _) | (with_reducible assumption) | (with_reducible refine Below.alloc ?_ ?_ _) | (with_reducible refine Below.drew ?_) | (with_reducible refine below_drewN ?_ _) | (with_reducible refine Below.setCell ?_ ?_ _) | (with_reducible refine below_after ?_ ?_ _) | (with_reducible refine below_set ?_) | (with_reducible refine After.size_le _ ?_) | (with_reducible refine size_alloc_le ?_) | (with_reducible refine size_set_le ?_) | (with_reducible refine size_drewN_le ?_) | go_size))⟩
  · rw [if_neg hm]
    go_enter Try.func90, Try.ntmps90
    go_wp2
    go_ret
    exact ⟨rfl, by (repeat' (first | (with_reducible exact Below.refl _ _) | (with_reducible assumption) | (with_reducible refine Below.alloc ?_ ?_ _) | (with_reducible refine Below.drew ?_) | (with_reducible refine below_drewN ?_ _) | (with_reducible refine Below.setCell ?_ ?_ _) | (with_reducible refine below_after ?_ ?_ _) | (with_reducible refine below_set ?_) | (with_reducible refine After.size_le _ ?_) | (with_reducible refine size_alloc_le ?_) | (with_reducible refine size_set_le ?_) | (with_reducible refine size_drewN_le ?_) | go_size))⟩
set_option maxRecDepth 100000 in
theorem floor_any (n d : Int) (w : World) (h1 : -1000000000000000000 ≤ n) (h2 : n ≤ 1000000000000000000) (h3 : 1 ≤ d) (h4 : d ≤ 1000000000000000000) :
    Calls Try.prog 91 #[.int .i64 n, .int .i64 d] w fun e w' => e = .returned (.int .i64 (downV n d)) ∧ Below w.heap.size w w' := by
  obtain ⟨⟨b1, b1'⟩, b2, b3, b3'⟩ := tdiv_bd (d := d) h1 h2
  unfold downV
  by_cases hm : n.tmod d < 0
  · rw [if_pos hm]
    have hm2 : n < n.tdiv d * d := by omega
    go_enter Try.func91, Try.ntmps91
    go_wp2
    go_ret
    exact ⟨rfl, by (repeat' (first | (with_reducible exact Below.refl _ _) | (with_reducible assumption) | (with_reducible refine Below.alloc ?_ ?_ _) | (with_reducible refine Below.drew ?_) | (with_reducible refine below_drewN ?_ _) | (with_reducible refine Below.setCell ?_ ?_ _) | (with_reducible refine below_after ?_ ?_ _) | (with_reducible refine below_set ?_) | (with_reducible refine After.size_le _ ?_) | (with_reducible refine size_alloc_le ?_) | (with_reducible refine size_set_le ?_) | (with_reducible refine size_drewN_le ?_) | go_size))⟩
  · rw [if_neg hm]
    have hm2 : ¬ n < n.tdiv d * d := by omega
    go_enter Try.func91, Try.ntmps91
    go_wp2
    go_ret
    exact ⟨rfl, by (repeat' (first | (with_reducible exact Below.refl _ _) | (with_reducible assumption) | (with_reducible refine Below.alloc ?_ ?_ _) | (with_reducible refine Below.drew ?_) | (with_reducible refine below_drewN ?_ _) | (with_reducible refine Below.setCell ?_ ?_ _) | (with_reducible refine below_after ?_ ?_ _) | (with_reducible refine below_set ?_) | (with_reducible refine After.size_le _ ?_) | (with_reducible refine size_alloc_le ?_) | (with_reducible refine size_set_le ?_) | (with_reducible refine size_drewN_le ?_) | go_size))⟩

theorem downV_bd {n d : Int} (h1 : -300000000000000000 ≤ n) (h2 : n ≤ 300000000000000000) : -1000000000000000001 ≤ downV n d ∧ downV n d ≤ 1000000000000000000 := by
  obtain ⟨⟨b1, b1'⟩, _⟩ := tdiv_bd (d := d) (n := n) (by omega) (by omega)
  unfold downV
  split <;> omega
def UpOk (a b d : Int) (ps : List (Int × Int)) (k : Nat) : Prop := InPt (upP a b d (ps.getD k (0, 0))).1 (upP a b d (ps.getD k (0, 0))).2
def upF (a b d : Int) (ps : List (Int × Int)) : Nat → Nat → Int := fun i j => if j = 0 then (upP a b d (ps.getD i (0, 0))).1 else (upP a b d (ps.getD i (0, 0))).2
/-- A line in memory. -/
def LineAt (W : World) (L : Nat) (a b d : Int) : Prop := L < W.heap.size ∧ W.cell? ⟨L, 0, none⟩ = some (.int .i64 a) ∧ W.cell? ⟨L, 1, none⟩ = some (.int .i64 b) ∧ W.cell? ⟨L, 2, none⟩ = some (.int .i64 d)
theorem LineAt.below {W W' : World} {L : Nat} {a b d : Int} (h : LineAt W L a b d) (hb : Below W.heap.size W W') : LineAt W' L a b d :=
  ⟨Nat.lt_of_lt_of_le h.1 hb.size, (hb.cell (p := ⟨L, 0, none⟩) h.1).trans h.2.1, (hb.cell (p := ⟨L, 1, none⟩) h.1).trans h.2.2.1, (hb.cell (p := ⟨L, 2, none⟩) h.1).trans h.2.2.2⟩
theorem LineAt.keep {W W' : World} {L N : Nat} {a b d : Int} (h : LineAt W L a b d) (hb : Below N W W') (hN : L < N) : LineAt W' L a b d :=
  ⟨Nat.lt_of_lt_of_le h.1 hb.size, (hb.cell (p := ⟨L, 0, none⟩) hN).trans h.2.1, (hb.cell (p := ⟨L, 1, none⟩) hN).trans h.2.2.1, (hb.cell (p := ⟨L, 2, none⟩) hN).trans h.2.2.2⟩
theorem LineAt.set {W : World} {L g o : Nat} {v : Value} {a b d : Int} (h : LineAt W L a b d) (hne : g ≠ L) : LineAt (W.setCell ⟨g, o, none⟩ v) L a b d := by
  have e : ∀ j, (W.setCell ⟨g, o, none⟩ v).cell? ⟨L, j, none⟩ = W.cell? ⟨L, j, none⟩ := fun j => World.cell?_setCell_other _ _ _ _ (by simp)
  exact ⟨by simpa using h.1, (e 0).trans h.2.1, (e 1).trans h.2.2.1, (e 2).trans h.2.2.2⟩

set_option maxRecDepth 100000 in
theorem raised_bad1 (v : Value) (a b d : Int) (w : World) (hv : PtsSay w v false) :
    Calls Try.prog 49 #[v, .agg #[.int .i64 a, .int .i64 b, .int .i64 d]] w fun e w' => e = .returned (.tuple #[.slice none 0 0, .int .i64 1]) ∧ Below w.heap.size w w' := by
  have HV : Hid (∀ W, Below w.heap.size w W → _) := hv
  clear hv
  go_enter Try.func49, Try.ntmps49
  (go_wp2_with fail); refine calls_after (HV.out _ (by (repeat' (first | (with_reducible exact Below.refl _ _) | (with_reducible assumption) | (with_reducible refine Below.alloc ?_ ?_ _) | (with_reducible refine Below.drew ?_) | (with_reducible refine below_drewN ?_ _) | (with_reducible refine Below.setCell ?_ ?_ _) | (with_reducible refine below_after ?_ ?_ _) | (with_reducible refine below_set ?_) | (with_reducible refine After.size_le _ ?_) | (with_reducible refine size_alloc_le ?_) | (with_reducible refine size_set_le ?_) | (with_reducible refine size_drewN_le ?_) | go_size)))) ?_; intro x1
  go_wp2
  go_returns
  exact ⟨rfl, by (repeat' (first | (with_reducible exact Below.refl _ _) | (with_reducible assumption) | (with_reducible refine Below.alloc ?_ ?_ _) | (with_reducible refine Below.drew ?_) | (with_reducible refine below_drewN ?_ _) | (with_reducible refine Below.setCell ?_ ?_ _) | (with_reducible refine below_after ?_ ?_ _) | (with_reducible refine below_set ?_) | (with_reducible refine After.size_le _ ?_) | (with_reducible refine size_alloc_le ?_) | (with_reducible refine size_set_le ?_) | (with_reducible refine size_drewN_le ?_) | go_size))⟩
set_option maxRecDepth 100000 in
theorem raised_bad2 (v : Value) (a b d : Int) (w : World) (hv : PtsSay w v true) (hL : ¬ GoodLine a b d) :
    Calls Try.prog 49 #[v, .agg #[.int .i64 a, .int .i64 b, .int .i64 d]] w fun e w' => e = .returned (.tuple #[.slice none 0 0, .int .i64 1]) ∧ Below w.heap.size w w' := by
  have HV : Hid (∀ W, Below w.heap.size w W → _) := hv
  have HL := Lib.hid (fun w => validLine_f a b d w hL)
  clear hv
  go_enter Try.func49, Try.ntmps49
  (go_wp2_with fail); refine calls_after (HV.out _ (by (repeat' (first | (with_reducible exact Below.refl _ _) | (with_reducible assumption) | (with_reducible refine Below.alloc ?_ ?_ _) | (with_reducible refine Below.drew ?_) | (with_reducible refine below_drewN ?_ _) | (with_reducible refine Below.setCell ?_ ?_ _) | (with_reducible refine below_after ?_ ?_ _) | (with_reducible refine below_set ?_) | (with_reducible refine After.size_le _ ?_) | (with_reducible refine size_alloc_le ?_) | (with_reducible refine size_set_le ?_) | (with_reducible refine size_drewN_le ?_) | go_size)))) ?_; intro x1; have hz_x1 := x1.out.size; (try simp only [World.size_alloc] at hz_x1); (try simp only [World.size_setCell] at hz_x1); have k0_x1 : w.heap.size < x1.w.heap.size := (by omega); have j0_x1 : w.heap.size < x1.w.heap.size + 1 := (by omega)
  (go_wp2_with fail); refine calls_after2 (HL.out _) ?_; intro x2
  go_wp2
  go_returns
  exact ⟨rfl, by (repeat' (first | (with_reducible exact Below.refl _ _) | (with_reducible assumption) | (with_reducible refine Below.alloc ?_ ?_ _) | (with_reducible refine Below.drew ?_) | (with_reducible refine below_drewN ?_ _) | (with_reducible refine Below.setCell ?_ ?_ _) | (with_reducible refine below_after ?_ ?_ _) | (with_reducible refine below_set ?_) | (with_reducible refine After.size_le _ ?_) | (with_reducible refine size_alloc_le ?_) | (with_reducible refine size_set_le ?_) | (with_reducible refine size_drewN_le ?_) | go_size))⟩
set_option maxRecDepth 100000 in
theorem rraised_bad1 (v : Value) (a b d : Int) (w : World) (hv : RptsSay w v false) :
    Calls Try.prog 50 #[v, .agg #[.int .i64 a, .int .i64 b, .int .i64 d]] w fun e w' => e = .returned (.tuple #[.slice none 0 0, .int .i64 1]) ∧ Below w.heap.size w w' := by
  have HV : Hid (∀ W, Below w.heap.size w W → _) := hv
  clear hv
  go_enter Try.func50, Try.ntmps50
  (go_wp2_with fail); refine calls_after (HV.out _ (by (repeat' (first | (with_reducible exact Below.refl _ _) | (with_reducible assumption) | (with_reducible refine Below.alloc ?_ ?_ _) | (with_reducible refine Below.drew ?_) | (with_reducible refine below_drewN ?_ _) | (with_reducible refine Below.setCell ?_ ?_ _) | (with_reducible refine below_after ?_ ?_ _) | (with_reducible refine below_set ?_) | (with_reducible refine After.size_le _ ?_) | (with_reducible refine size_alloc_le ?_) | (with_reducible refine size_set_le ?_) | (with_reducible refine size_drewN_le ?_) | go_size)))) ?_; intro x1
  go_wp2
  go_returns
  exact ⟨rfl, by (repeat' (first | (with_reducible exact Below.refl _ _) | (with_reducible assumption) | (with_reducible refine Below.alloc ?_ ?_ _) | (with_reducible refine Below.drew ?_) | (with_reducible refine below_drewN ?_ _) | (with_reducible refine Below.setCell ?_ ?_ _) | (with_reducible refine below_after ?_ ?_ _) | (with_reducible refine below_set ?_) | (with_reducible refine After.size_le _ ?_) | (with_reducible refine size_alloc_le ?_) | (with_reducible refine size_set_le ?_) | (with_reducible refine size_drewN_le ?_) | go_size))⟩
set_option maxRecDepth 100000 in
theorem rraised_bad2 (v : Value) (a b d : Int) (w : World) (hv : RptsSay w v true) (hL : ¬ GoodLine a b d) :
    Calls Try.prog 50 #[v, .agg #[.int .i64 a, .int .i64 b, .int .i64 d]] w fun e w' => e = .returned (.tuple #[.slice none 0 0, .int .i64 1]) ∧ Below w.heap.size w w' := by
  have HV : Hid (∀ W, Below w.heap.size w W → _) := hv
  have HL := Lib.hid (fun w => rvalidLine_f a b d w hL)
  clear hv
  go_enter Try.func50, Try.ntmps50
  (go_wp2_with fail); refine calls_after (HV.out _ (by (repeat' (first | (with_reducible exact Below.refl _ _) | (with_reducible assumption) | (with_reducible refine Below.alloc ?_ ?_ _) | (with_reducible refine Below.drew ?_) | (with_reducible refine below_drewN ?_ _) | (with_reducible refine Below.setCell ?_ ?_ _) | (with_reducible refine below_after ?_ ?_ _) | (with_reducible refine below_set ?_) | (with_reducible refine After.size_le _ ?_) | (with_reducible refine size_alloc_le ?_) | (with_reducible refine size_set_le ?_) | (with_reducible refine size_drewN_le ?_) | go_size)))) ?_; intro x1; have hz_x1 := x1.out.size; (try simp only [World.size_alloc] at hz_x1); (try simp only [World.size_setCell] at hz_x1); have k0_x1 : w.heap.size < x1.w.heap.size := (by omega); have j0_x1 : w.heap.size < x1.w.heap.size + 1 := (by omega)
  (go_wp2_with fail); refine calls_after2 (HL.out _) ?_; intro x2
  go_wp2
  go_returns
  exact ⟨rfl, by (repeat' (first | (with_reducible exact Below.refl _ _) | (with_reducible assumption) | (with_reducible refine Below.alloc ?_ ?_ _) | (with_reducible refine Below.drew ?_) | (with_reducible refine below_drewN ?_ _) | (with_reducible refine Below.setCell ?_ ?_ _) | (with_reducible refine below_after ?_ ?_ _) | (with_reducible refine below_set ?_) | (with_reducible refine After.size_le _ ?_) | (with_reducible refine size_alloc_le ?_) | (with_reducible refine size_set_le ?_) | (with_reducible refine size_drewN_le ?_) | go_size))⟩

set_option maxRecDepth 100000 in
set_option maxHeartbeats 1000000 in
theorem raised_go (p off cap : Nat) (a b d : Int) (ps : List (Int × Int)) (w : World) (hp : p < w.heap.size)
    (hc : ∀ i, i < ps.length → w.cell? ⟨p, off + i * 2, none⟩ = some (.int .i64 (ps.getD i (0, 0)).1) ∧ w.cell? ⟨p, off + i * 2 + 1, none⟩ = some (.int .i64 (ps.getD i (0, 0)).2))
    (hG : GoodPts ps) (hL : GoodLine a b d) :
    Calls Try.prog 49 #[.slice (some ⟨p, off, none⟩) ps.length cap, .agg #[.int .i64 a, .int .i64 b, .int .i64 d]] w fun e w' =>
      (((∀ k, k < ps.length → UpOk a b d ps k) ∧ ∃ v, e = .returned (.tuple #[v, .int .i64 0]) ∧ PtRow w' w.heap.size v ps.length (upF a b d ps)) ∨
       ((∃ k, k < ps.length ∧ ¬ UpOk a b d ps k) ∧ e = .returned (.tuple #[.slice none 0 0, .int .i64 4]))) ∧ Below w.heap.size w w' := by
  have h40 := hG.2.1
  have hA := Lib.hid (goodPts_at hG)
  have hI := Lib.hid hL.1
  have HV : Hid (∀ W, Below w.heap.size w W → _) := fun W hW => validPoints_t p off cap ps W (Nat.lt_of_lt_of_le hp hW.size) (by omega) (cells_on hp hc hW) hG
  have HL := Lib.hid (fun w => validLine_t a b d w hL)
  have HC := Lib.hid hc
  have hd1 : 1 ≤ d := (inBd_d hI.out).1
  have hd2 : d ≤ 1000000000000000000 := (inBd_d hI.out).2
  clear hc hG hL
  obtain ⟨i0, hi, hz0, hz1, hz2⟩ := info_parts ptInfo2
  generalize hn : ps.length = n at *
  have hmk := fun w' => run_make (P := Try.prog) w' 24 37 i0 _ Try.underlying24 hi hz0 .i64 .i64 (n : Int) (n : Int) (by omega) (by omega) (by rw [hz2]; omega) (by omega)
  rw [hz1] at hmk
  simp only [Int.toNat_natCast] at hmk
  go_enter Try.func49, Try.ntmps49
  (go_wp2_with fail); refine calls_after (HV.out _ (by (repeat' (first | (with_reducible exact Below.refl _ _) | (with_reducible assumption) | (with_reducible refine Below.alloc ?_ ?_ _) | (with_reducible refine Below.drew ?_) | (with_reducible refine below_drewN ?_ _) | (with_reducible refine Below.setCell ?_ ?_ _) | (with_reducible refine below_after ?_ ?_ _) | (with_reducible refine below_set ?_) | (with_reducible refine After.size_le _ ?_) | (with_reducible refine size_alloc_le ?_) | (with_reducible refine size_set_le ?_) | (with_reducible refine size_drewN_le ?_) | go_size)))) ?_; intro x1; have hz_x1 := x1.out.size; (try simp only [World.size_alloc] at hz_x1); (try simp only [World.size_setCell] at hz_x1); have k0_x1 : w.heap.size < x1.w.heap.size := (by omega); have j0_x1 : w.heap.size < x1.w.heap.size + 1 := (by omega)
  (go_wp2_with fail); refine calls_after2 (HL.out _) ?_; intro x2
  go_wp2
  clear hmk
  obtain ⟨W1, hW1⟩ : ∃ W1, x2.w.alloc (.cells (madeCells #[.int .i64 0, .int .i64 0] (n * 2)) 37) = W1 := ⟨_, rfl⟩
  have hz2' := x2.out.size
  simp only [World.size_alloc] at hz2'
  have hl0 : LineAt (w.alloc (.cells #[.int .i64 a, .int .i64 b, .int .i64 d] 35)) w.heap.size a b d := ⟨by simp, by simp [go_sem], by simp [go_sem], by simp [go_sem]⟩
  have hl2 := hl0.below x2.out
  have hl1 : LineAt W1 w.heap.size a b d := by rw [← hW1]; exact hl2.below ((Below.refl _ _).alloc (Nat.le_refl _) _)
  have hB0 : Below w.heap.size w x2.w := ((Below.refl _ w).alloc (Nat.le_refl _) _).trans (x2.out.mono (by simp))
  have hB1 : Below w.heap.size w W1 := by rw [← hW1]; exact hB0.alloc hB0.size _
  have hF1 : Fill W1 x2.w.heap.size n 0 (upF a b d ps) := by
    rw [← hW1]
    refine ⟨by simp, fun j hj => ?_, fun o => by simp [go_sem], fun i hi => absurd hi (by omega)⟩
    have := cell_of_row (x2.w.alloc (.cells (madeCells #[.int .i64 0, .int .i64 0] (n * 2)) 37)) x2.w.heap.size j _ _ _ (heap_alloc_new x2.w _)
    rw [this]
    exact ⟨_, Array.getElem?_eq_getElem (by simpa [madeCells] using hj)⟩
  have hgl : w.heap.size < x2.w.heap.size := by omega
  rw [hW1]
  generalize x2.w.heap.size = g at *
  clear hW1 hz_x1 k0_x1 j0_x1 hl0 hl2 hB0 hz2' HL
  go_loopw [22] (fun i wr => ∃ k : Nat, k ≤ n ∧ i = .int .i64 k ∧ (∀ j, j < k → UpOk a b d ps j) ∧ Fill wr g n k (upF a b d ps) ∧ LineAt wr w.heap.size a b d ∧ Below w.heap.size w wr) (fun i _ => n - (intOf i).toNat)
  case atStart => exact ⟨0, by omega, rfl, fun j hj => absurd hj (by omega), hF1, hl1, hB1⟩
  case round =>
    obtain ⟨k, hk, rfl, hok, hfill, hline, hbel⟩ := hrel
    have HOK := Lib.hid hok
    by_cases hlt : k < n
    · obtain ⟨c1, c2⟩ := HC.out k hlt
      have hin := hA.out k (by omega)
      have hkey : UpOk a b d ps k = InPt (ps.getD k (0, 0)).1 ((ps.getD k (0, 0)).2 + downV (valV a b (ps.getD k (0, 0)).1) d) := rfl
      have hupf : upF a b d ps k 0 = (ps.getD k (0, 0)).1 ∧ upF a b d ps k 1 = (ps.getD k (0, 0)).2 + downV (valV a b (ps.getD k (0, 0)).1) d := ⟨rfl, rfl⟩
      have HU := Lib.hid hupf
      have HK := Lib.hid hkey
      have v12 := hin
      unfold InPt at v12
      have vb := valV_bd hI.out v12.1 v12.2.1
      have qb := downV_bd (d := d) vb.1 vb.2
      have HVv := Lib.hid (fun w => value_any a b d (ps.getD k (0, 0)).1 w hI.out v12.1 v12.2.1)
      have HD := Lib.hid (fun w => down_any (valV a b (ps.getD k (0, 0)).1) d w (by omega) (by omega) hd1 hd2)
      clear hkey hupf hin hok
      generalize (ps.getD k (0, 0)).1 = h at *
      generalize (ps.getD k (0, 0)).2 = x at *
      generalize valV a b h = v at *
      generalize downV v d = q at *
      have c1 := (hbel.cell (p := ⟨p, _, none⟩) hp).trans c1
      have c2 := (hbel.cell (p := ⟨p, _, none⟩) hp).trans c2
      have hbk := Nat.lt_of_lt_of_le hp hbel.size
      obtain ⟨l0, l1, l2, l3⟩ := hline
      have HLn : Hid (LineAt wr w.heap.size a b d) := Lib.hid ⟨l0, l1, l2, l3⟩
      have HFl := Lib.hid hfill
      have HBl := Lib.hid hbel
      clear hfill hbel
      by_cases hv : InPt h (x + q)
      · have HP := Lib.hid (fun w => validPoint_t h (x + q) w hv)
        go_wp2
        refine wp_region_after_tail 10 (by kernel_rfl) (by kernel_rfl) ?_; simp only [List.take_succ_cons, List.take_zero, List.drop_succ_cons, List.drop_zero]; (repeat (first | go_big_quiet_step ((first | (go_at_call 70; exact quiet_after (HVv.out _)) | (go_at_call 90; exact quiet_after (HD.out _)))) | (refine wpQuiet_step (fun K hK => ?_); go_simp; first | (refine hK _ ?_; clear hK K) | (apply Exists.intro; refine ⟨fun x => ?_, hK _ ?_⟩; (first | (go_at_call 70; exact quiet_after (HVv.out _)) | (go_at_call 90; exact quiet_after (HD.out _))); clear hK K)))); refine wpQuiet_nil ?_
        intro y
        (go_wp2_with fail); refine calls_after (HP.out _) ?_; intro z
        have hsy := y.out.size
        simp only [World.size_alloc] at hsy
        have hS1 : wr.heap.size < ((wr.alloc (.cells #[.int .i64 h, .int .i64 x] 37)).setCell ⟨wr.heap.size, 1, none⟩ (.int .i64 (x + q))).heap.size := by simp
        have hS2 : wr.heap.size < (y.set ⟨wr.heap.size, 1, none⟩ (.int .i64 (x + q))).w.heap.size := Nat.lt_of_lt_of_le hS1 (y.set ⟨wr.heap.size, 1, none⟩ (.int .i64 (x + q))).out.size
        have hP0 : z.w.cell? ⟨wr.heap.size, 0, none⟩ = some (.int .i64 h) := by
          rw [z.out.cell (p := ⟨wr.heap.size, 0, none⟩) hS2, (y.set ⟨wr.heap.size, 1, none⟩ (.int .i64 (x + q))).out.cell (p := ⟨wr.heap.size, 0, none⟩) hS1]
          simp [go_sem]
        have hP1 : z.w.cell? ⟨wr.heap.size, 1, none⟩ = some (.int .i64 (x + q)) := by
          rw [z.out.cell (p := ⟨wr.heap.size, 1, none⟩) hS2, (y.set ⟨wr.heap.size, 1, none⟩ (.int .i64 (x + q))).out.cell (p := ⟨wr.heap.size, 1, none⟩) hS1]
          simp [go_sem]
        have hY : Below wr.heap.size wr z.w := by (repeat' (first | (with_reducible exact Below.refl _ _) | (with_reducible assumption) | (with_reducible refine Below.alloc ?_ ?_ _) | (with_reducible refine Below.drew ?_) | (with_reducible refine below_drewN ?_ _) | (with_reducible refine Below.setCell ?_ ?_ _) | (with_reducible refine below_after ?_ ?_ _) | (with_reducible refine below_set ?_) | (with_reducible refine After.size_le _ ?_) | (with_reducible refine size_alloc_le ?_) | (with_reducible refine size_set_le ?_) | (with_reducible refine size_drewN_le ?_) | go_size))
        have hf2 := HFl.out.below hY
        have HL2 := Lib.hid (HLn.out.below hY)
        have HB2 := Lib.hid (HBl.out.trans (hY.mono HBl.out.size))
        obtain ⟨u0, e0⟩ := hf2.some_ (k * 2) (by omega)
        obtain ⟨u1, e1⟩ := hf2.some_ (k * 2 + 1) (by omega)
        have fr := hf2.free
        have HF2 := Lib.hid hf2
        have hgw := HFl.out.lt
        have hgp : g ≠ wr.heap.size := by omega
        have hgS := wr.heap.size
        clear hf2 hY hS1 hS2 hsy HLn HFl HBl hbk c1 c2 l1 l2 l3
        generalize z.w = Y at *
        go_wp2
        go_roundw
        case rel =>
          have hn2 := HF2.out.next hlt
          rw [HU.out.1, HU.out.2] at hn2
          exact ⟨k + 1, by omega, by go_num, fun j hj => by
            rcases Nat.lt_or_ge j k with h2 | h2
            · exact HOK.out j h2
            · obtain rfl : j = k := by omega
              rw [HK.out]; exact hv, hn2, (HL2.out.set (by omega)).set (by omega), (HB2.out.setCell (Nat.le_of_lt hgl) _).setCell (Nat.le_of_lt hgl) _⟩
        case measure => simp [intOf]; omega
      · have HP := Lib.hid (fun w => validPoint_f h (x + q) w hv)
        go_wp2
        refine wp_region_after_tail 10 (by kernel_rfl) (by kernel_rfl) ?_; simp only [List.take_succ_cons, List.take_zero, List.drop_succ_cons, List.drop_zero]; (repeat (first | go_big_quiet_step ((first | (go_at_call 70; exact quiet_after (HVv.out _)) | (go_at_call 90; exact quiet_after (HD.out _)))) | (refine wpQuiet_step (fun K hK => ?_); go_simp; first | (refine hK _ ?_; clear hK K) | (apply Exists.intro; refine ⟨fun x => ?_, hK _ ?_⟩; (first | (go_at_call 70; exact quiet_after (HVv.out _)) | (go_at_call 90; exact quiet_after (HD.out _))); clear hK K)))); refine wpQuiet_nil ?_
        intro y
        (go_wp2_with fail); refine calls_after (HP.out _) ?_; intro z
        go_wp2
        go_returns
        exact ⟨.inr ⟨⟨k, hlt, by rw [HK.out]; exact hv⟩, rfl⟩, by have hB := HBl.out; (repeat' (first | (with_reducible exact Below.refl _ _) | (with_reducible assumption) | (with_reducible refine Below.alloc ?_ ?_ _) | (with_reducible refine Below.drew ?_) | (with_reducible refine below_drewN ?_ _) | (with_reducible refine Below.setCell ?_ ?_ _) | (with_reducible refine below_after ?_ ?_ _) | (with_reducible refine below_set ?_) | (with_reducible refine After.size_le _ ?_) | (with_reducible refine size_alloc_le ?_) | (with_reducible refine size_set_le ?_) | (with_reducible refine size_drewN_le ?_) | go_size))⟩
    · obtain rfl : n = k := by omega
      have HO := Lib.hid hfill
      have HBl := Lib.hid hbel
      clear hfill hbel hline
      go_wp2
      go_returns
      exact ⟨.inl ⟨HOK.out, _, rfl, ⟨g, _, rfl, by omega, HO.out.lt, HO.out.got⟩⟩, HBl.out⟩

set_option maxRecDepth 100000 in
set_option maxHeartbeats 1000000 in
theorem rraised_go (p off cap : Nat) (a b d : Int) (ps : List (Int × Int)) (w : World) (hp : p < w.heap.size)
    (hc : ∀ i, i < ps.length → w.cell? ⟨p, off + i * 2, none⟩ = some (.int .i64 (ps.getD i (0, 0)).1) ∧ w.cell? ⟨p, off + i * 2 + 1, none⟩ = some (.int .i64 (ps.getD i (0, 0)).2))
    (hG : GoodPts ps) (hL : GoodLine a b d) :
    Calls Try.prog 50 #[.slice (some ⟨p, off, none⟩) ps.length cap, .agg #[.int .i64 a, .int .i64 b, .int .i64 d]] w fun e w' =>
      (((∀ k, k < ps.length → UpOk a b d ps k) ∧ ∃ v, e = .returned (.tuple #[v, .int .i64 0]) ∧ PtRow w' w.heap.size v ps.length (upF a b d ps)) ∨
       ((∃ k, k < ps.length ∧ ¬ UpOk a b d ps k) ∧ e = .returned (.tuple #[.slice none 0 0, .int .i64 4]))) ∧ Below w.heap.size w w' := by
  have h40 := hG.2.1
  have hn1 := hG.1
  have hA := Lib.hid (goodPts_at hG)
  have hI := Lib.hid hL.1
  have HV : Hid (∀ W, Below w.heap.size w W → Calls Try.prog 39 #[.slice (some ⟨p, off, none⟩) ps.length cap] W fun e w' => e = .returned (.bool true) ∧ Below W.heap.size W w') := fun W hW => by
    have := rvalidPoints_any p off cap ps W (Nat.lt_of_lt_of_le hp hW.size) (by omega) (cells_on hp hc hW)
    rwa [decide_eq_true hG] at this
  have HL := Lib.hid (fun w => rvalidLine_t a b d w hL)
  have HC := Lib.hid hc
  have hd1 : 1 ≤ d := (inBd_d hI.out).1
  have hd2 : d ≤ 1000000000000000000 := (inBd_d hI.out).2
  clear hc hG hL
  obtain ⟨i0, hi, hz0, hz1, hz2⟩ := info_parts ptInfo2
  generalize hn : ps.length = n at *
  go_enter Try.func50, Try.ntmps50
  (go_wp2_with fail); refine calls_after (HV.out _ (by (repeat' (first | (with_reducible exact Below.refl _ _) | (with_reducible assumption) | (with_reducible refine Below.alloc ?_ ?_ _) | (with_reducible refine Below.drew ?_) | (with_reducible refine below_drewN ?_ _) | (with_reducible refine Below.setCell ?_ ?_ _) | (with_reducible refine below_after ?_ ?_ _) | (with_reducible refine below_set ?_) | (with_reducible refine After.size_le _ ?_) | (with_reducible refine size_alloc_le ?_) | (with_reducible refine size_set_le ?_) | (with_reducible refine size_drewN_le ?_) | go_size)))) ?_; intro x1; have hz_x1 := x1.out.size; (try simp only [World.size_alloc] at hz_x1); (try simp only [World.size_setCell] at hz_x1); have k0_x1 : w.heap.size < x1.w.heap.size := (by omega); have j0_x1 : w.heap.size < x1.w.heap.size + 1 := (by omega)
  (go_wp2_with fail); refine calls_after2 (HL.out _) ?_; intro x2
  go_wp2
  have hl0 : LineAt (w.alloc (.cells #[.int .i64 a, .int .i64 b, .int .i64 d] 35)) w.heap.size a b d := ⟨by simp, by simp [go_sem], by simp [go_sem], by simp [go_sem]⟩
  have hl1 := hl0.below x2.out
  have hB1 : Below w.heap.size w x2.w := ((Below.refl _ w).alloc (Nat.le_refl _) _).trans (x2.out.mono (by simp))
  clear hz_x1 k0_x1 j0_x1 hl0 HL
  go_loopw [6, 7] (fun o i wr => ∃ k : Nat, k ≤ n ∧ i = .int .i64 k ∧ (∀ j, j < k → UpOk a b d ps j) ∧ wr.ownsRow (w.heap.size + 1) 37 2 o k (pcs k (upF a b d ps)) ∧ LineAt wr w.heap.size a b d ∧ Below w.heap.size w wr) (fun _ i _ => n - (intOf i).toNat)
  case atStart => exact ⟨0, by omega, rfl, fun j hj => absurd hj (by omega), World.ownsRow_nil _ _ _ _, hl1, hB1⟩
  case round =>
    obtain ⟨k, hk, rfl, hok, hown, hline, hbel⟩ := hrel
    have HOK := Lib.hid hok
    by_cases hlt : k < n
    · obtain ⟨c1, c2⟩ := HC.out k hlt
      have hin := hA.out k (by omega)
      have hkey : UpOk a b d ps k = InPt (ps.getD k (0, 0)).1 ((ps.getD k (0, 0)).2 + downV (valV a b (ps.getD k (0, 0)).1) d) := rfl
      have hupf : upF a b d ps k 0 = (ps.getD k (0, 0)).1 ∧ upF a b d ps k 1 = (ps.getD k (0, 0)).2 + downV (valV a b (ps.getD k (0, 0)).1) d := ⟨rfl, rfl⟩
      have HU := Lib.hid hupf
      have HK := Lib.hid hkey
      have v12 := hin
      unfold InPt at v12
      have vb := valV_bd hI.out v12.1 v12.2.1
      have ii := hI.out
      unfold InBd at ii
      have m := prod_bd (a := b) (b := (ps.getD k (0, 0)).1) (A := 1000000000000) (B := 200000) (by omega) (by omega) (by omega) (by omega)
      have qb := downV_bd (d := d) vb.1 vb.2
      have HD := Lib.hid (fun w => floor_any (valV a b (ps.getD k (0, 0)).1) d w (by omega) (by omega) hd1 hd2)
      have HVv : Hid (valV a b (ps.getD k (0, 0)).1 = a + b * (ps.getD k (0, 0)).1) := rfl
      rw [HVv.out] at HD HK HU qb vb
      clear hkey hupf hin hok HVv
      obtain ⟨m1, m2⟩ := m
      obtain ⟨ii1, ii2, ii3, ii4, ii5, ii6⟩ := ii
      generalize (ps.getD k (0, 0)).1 = h at *
      generalize (ps.getD k (0, 0)).2 = x at *
      generalize downV (a + b * h) d = q at *
      have c1 := (hbel.cell (p := ⟨p, _, none⟩) hp).trans c1
      have c2 := (hbel.cell (p := ⟨p, _, none⟩) hp).trans c2
      have hbk := Nat.lt_of_lt_of_le hp hbel.size
      obtain ⟨l0, l1, l2, l3⟩ := hline
      have HLn : Hid (LineAt wr w.heap.size a b d) := Lib.hid ⟨l0, l1, l2, l3⟩
      have HO := Lib.hid hown
      have HBl := Lib.hid hbel
      clear hown hbel
      by_cases hv : InPt h (x + q)
      · have HP := Lib.hid (fun w => rvalidPoint_t h (x + q) w hv)
        go_wp2
        refine wp_region_after_tail 14 (by kernel_rfl) (by kernel_rfl) ?_; simp only [List.take_succ_cons, List.take_zero, List.drop_succ_cons, List.drop_zero]; (repeat (first | go_big_quiet_step ((go_at_call 91; exact quiet_after (HD.out _))) | (refine wpQuiet_step (fun K hK => ?_); go_simp; first | (refine hK _ ?_; clear hK K) | (apply Exists.intro; refine ⟨fun x => ?_, hK _ ?_⟩; (go_at_call 91; exact quiet_after (HD.out _)); clear hK K)))); refine wpQuiet_nil ?_
        intro y
        (go_wp2_with fail); refine calls_after (HP.out _) ?_; intro z
        have hsy := y.out.size
        simp only [World.size_alloc] at hsy
        have hS1 : wr.heap.size < ((wr.alloc (.cells #[.int .i64 h, .int .i64 x] 37)).setCell ⟨wr.heap.size, 1, none⟩ (.int .i64 (x + q))).heap.size := by simp
        have hS2 : wr.heap.size < (y.set ⟨wr.heap.size, 1, none⟩ (.int .i64 (x + q))).w.heap.size := Nat.lt_of_lt_of_le hS1 (y.set ⟨wr.heap.size, 1, none⟩ (.int .i64 (x + q))).out.size
        have hP0 : z.w.cell? ⟨wr.heap.size, 0, none⟩ = some (.int .i64 h) := by
          rw [z.out.cell (p := ⟨wr.heap.size, 0, none⟩) hS2, (y.set ⟨wr.heap.size, 1, none⟩ (.int .i64 (x + q))).out.cell (p := ⟨wr.heap.size, 0, none⟩) hS1]
          simp [go_sem]
        have hP1 : z.w.cell? ⟨wr.heap.size, 1, none⟩ = some (.int .i64 (x + q)) := by
          rw [z.out.cell (p := ⟨wr.heap.size, 1, none⟩) hS2, (y.set ⟨wr.heap.size, 1, none⟩ (.int .i64 (x + q))).out.cell (p := ⟨wr.heap.size, 1, none⟩) hS1]
          simp [go_sem]
        have hY : Below wr.heap.size wr z.w := by (repeat' (first | (with_reducible exact Below.refl _ _) | (with_reducible assumption) | (with_reducible refine Below.alloc ?_ ?_ _) | (with_reducible refine Below.drew ?_) | (with_reducible refine below_drewN ?_ _) | (with_reducible refine Below.setCell ?_ ?_ _) | (with_reducible refine below_after ?_ ?_ _) | (with_reducible refine below_set ?_) | (with_reducible refine After.size_le _ ?_) | (with_reducible refine size_alloc_le ?_) | (with_reducible refine size_set_le ?_) | (with_reducible refine size_drewN_le ?_) | go_size))
        have hown := owns_below HO.out hY
        have hl2 := HLn.out.below hY
        have hb2 := HBl.out.trans (hY.mono HBl.out.size)
        have hsz := hb2.size
        have hl3 := hl2.1
        clear hY hS1 hS2 hsy HLn HO HBl hbk c1 c2 l1 l2 l3
        generalize z.w = Y at *
        go_wp2_with (at_builtin; refine wpList_append_own _ rfl _ _ 24 rfl (w.heap.size + 1) 37 i0 (.agg #[.int .i64 0, .int .i64 0]) 2 16 Try.underlying24 hi hz0 hz1 hz2 rfl (by decide) _ _ _ rfl (hown.alloc _) ⟨Y.heap.size, 0, none⟩ 1 1 [.int .i64 h, .int .i64 (x + q)] rfl rfl (World.news_of_block (cs := #[.int .i64 h, .int .i64 (x + q)]) (t := 37) (fr := (0, 0)) (heap_alloc_new Y _)) (by simp [Value.oneCell']) (by unfold maxLen; omega) (by omega) (by simp; omega) ?_; intro v' w1 hown' hgrow _)
        have hb3 : Below w.heap.size w w1 := (hb2.alloc hb2.size (.cells #[.int .i64 h, .int .i64 (x + q)] 37)).grown hgrow (by simp; omega) (fun j e => by have := (hown.lt j e).1; omega)
        have hl4 : LineAt w1 w.heap.size a b d := hl2.keep (((Below.refl (w.heap.size + 1) Y).alloc hl3 (.cells #[.int .i64 h, .int .i64 (x + q)] 37)).grown hgrow (by simp; omega) (fun j e => (hown.lt j e).1)) (Nat.lt_succ_self _)
        go_roundw
        case rel =>
          refine ⟨k + 1, by omega, by go_num, fun j hj => ?_, ?_, hl4, hb3⟩
          · rcases Nat.lt_or_ge j k with h2 | h2
            · exact HOK.out j h2
            · obtain rfl : j = k := by omega
              rw [HK.out]; exact hv
          · rw [pcs_succ, HU.out.1, HU.out.2]
            exact hown'
        case measure => simp [intOf]; omega
      · have HP := Lib.hid (fun w => rvalidPoint_f h (x + q) w hv)
        go_wp2
        refine wp_region_after_tail 14 (by kernel_rfl) (by kernel_rfl) ?_; simp only [List.take_succ_cons, List.take_zero, List.drop_succ_cons, List.drop_zero]; (repeat (first | go_big_quiet_step ((go_at_call 91; exact quiet_after (HD.out _))) | (refine wpQuiet_step (fun K hK => ?_); go_simp; first | (refine hK _ ?_; clear hK K) | (apply Exists.intro; refine ⟨fun x => ?_, hK _ ?_⟩; (go_at_call 91; exact quiet_after (HD.out _)); clear hK K)))); refine wpQuiet_nil ?_
        intro y
        (go_wp2_with fail); refine calls_after (HP.out _) ?_; intro z
        go_wp2
        go_returns
        exact ⟨.inr ⟨⟨k, hlt, by rw [HK.out]; exact hv⟩, rfl⟩, by have hB := HBl.out; (repeat' (first | (with_reducible exact Below.refl _ _) | (with_reducible assumption) | (with_reducible refine Below.alloc ?_ ?_ _) | (with_reducible refine Below.drew ?_) | (with_reducible refine below_drewN ?_ _) | (with_reducible refine Below.setCell ?_ ?_ _) | (with_reducible refine below_after ?_ ?_ _) | (with_reducible refine below_set ?_) | (with_reducible refine After.size_le _ ?_) | (with_reducible refine size_alloc_le ?_) | (with_reducible refine size_set_le ?_) | (with_reducible refine size_drewN_le ?_) | go_size))⟩
    · obtain rfl : n = k := by omega
      have HO := Lib.hid hown
      have HBl := Lib.hid hbel
      clear hown hbel hline
      go_wp2
      go_returns
      refine ⟨.inl ⟨HOK.out, _, rfl, ?_⟩, HBl.out⟩
      obtain ⟨g, c, h1, h2, h3, h4⟩ := ptRow_of HO.out hn1
      exact ⟨g, c, h1, by omega, h3, h4⟩
end Go.Proofs.Ytdhobjflfhijjaa
