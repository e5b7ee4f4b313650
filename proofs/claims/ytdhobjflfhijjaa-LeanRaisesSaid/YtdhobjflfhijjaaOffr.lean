/- Offsets of a survey: East and North, in both programs. -/
import Derived.Test.YtdhobjflfhijjaaOffs
import Derived.Lib.SmallJoins
import Derived.Deep.AppendLies
import Derived.Laws.OwnMore
import Derived.Test.YtdhobjflfhijjaaMovedb
namespace Go.Proofs.Ytdhobjflfhijjaa
open Go.RowKit
attribute [local go_sem] After.cell After.frozen After.lt After.le After.ne After.ne' After.set_eq After.size_set After.lt_add

def pcs (n : Nat) (F : Nat → Nat → Int) : List Value := (List.range n).flatMap fun i => [.int .i64 (F i 0), .int .i64 (F i 1)]
theorem pcs_succ (n : Nat) (F : Nat → Nat → Int) : pcs (n + 1) F = pcs n F ++ [.int .i64 (F n 0), .int .i64 (F n 1)] := by
  unfold pcs; rw [List.range_succ, List.flatMap_append]; simp
theorem pcs_len (n : Nat) (F : Nat → Nat → Int) : (pcs n F).length = n * 2 := by
  induction n with
  | zero => rfl
  | succ n ih => rw [pcs_succ, List.length_append, ih]; simp; omega
theorem pcs_get (F : Nat → Nat → Int) : ∀ {n i : Nat}, i < n → (pcs n F)[i * 2]? = some (.int .i64 (F i 0)) ∧ (pcs n F)[i * 2 + 1]? = some (.int .i64 (F i 1))
  | n + 1, i, h => by
    rw [pcs_succ]
    rcases Nat.lt_or_ge i n with h1 | h1
    · rw [List.getElem?_append_left (by rw [pcs_len]; omega), List.getElem?_append_left (by rw [pcs_len]; omega)]
      exact pcs_get F h1
    · obtain rfl : i = n := by omega
      rw [List.getElem?_append_right (by rw [pcs_len]; omega), List.getElem?_append_right (by rw [pcs_len]; omega), pcs_len]
      rw [show i * 2 - i * 2 = 0 by omega, show i * 2 + 1 - i * 2 = 1 by omega]
      exact ⟨rfl, rfl⟩
theorem ptRow_of {W : World} {base : Nat} {v : Value} {n : Nat} {F : Nat → Nat → Int} (h : W.ownsRow base 37 2 v n (pcs n F)) (hn : 1 ≤ n) : PtRow W base v n F := by
  obtain ⟨g, cap, rfl⟩ := Go.Joins.ownsRow_form h hn
  refine ⟨g, cap, rfl, (h.lt g rfl).1, (h.lt g rfl).2, fun i hi => ?_⟩
  rw [h.cellAt _ (by omega), h.cellAt _ (by omega)]
  exact pcs_get F hi

set_option maxRecDepth 100000 in
set_option maxHeartbeats 400000 in
theorem offsets_bad (v : Value) (fn : FuncId) (w : World) (ha : MSay w v false) :
    Calls Try.prog 57 #[v, .func (.func fn) #[] #[]] w fun x w' => x = .returned (.tuple #[.slice none 0 0, .int .i64 1]) ∧ Below w.heap.size w w' := by
  have HA : Hid (∀ W, Below w.heap.size w W → _) := ha
  clear ha
  go_enter Try.func57, Try.ntmps57
  (go_wp2_with fail); refine calls_after (HA.out _ (by (repeat' (first | (with_reducible exact Below.refl _ _) | (with_reducible assumption) | (with_reducible refine Below.alloc ?_ ?_ _) | (with_reducible refine Below.drew ?_) | (with_reducible refine below_drewN ?_ _) | (with_reducible refine Below.setCell ?_ ?_ _) | (with_reducible refine below_after ?_ ?_ _) | (with_reducible refine below_set ?_) | (with_reducible refine After.size_le _ ?_) | (with_reducible refine size_alloc_le ?_) | (with_reducible refine size_set_le ?_) | (with_reducible refine size_drewN_le ?_) | go_size)))) ?_; intro x1
  go_wp2
  go_returns
  exact ⟨rfl, by (repeat' (first | (with_reducible exact Below.refl _ _) | (with_reducible assumption) | (with_reducible refine Below.alloc ?_ ?_ _) | (with_reducible refine Below.drew ?_) | (with_reducible refine below_drewN ?_ _) | (with_reducible refine Below.setCell ?_ ?_ _) | (with_reducible refine below_after ?_ ?_ _) | (with_reducible refine below_set ?_) | (with_reducible refine After.size_le _ ?_) | (with_reducible refine size_alloc_le ?_) | (with_reducible refine size_set_le ?_) | (with_reducible refine size_drewN_le ?_) | go_size))⟩

/-! ### east -/
set_option maxRecDepth 100000 in
set_option maxHeartbeats 400000 in
theorem least_bad (v : Value) (w : World) (ha : MSay w v false) :
    Calls Try.prog 16 #[v] w fun x w' => x = .returned (.tuple #[.slice none 0 0, .int .i64 1]) ∧ Below w.heap.size w w' := by
  have HA := Lib.hid (offsets_bad v 58 w ha)
  clear ha
  go_enter Try.func16, Try.ntmps16
  (go_wp2_with fail); refine calls_after (HA.out) ?_; intro x1
  go_wp2
  go_returns
  exact ⟨rfl, by (repeat' (first | (with_reducible exact Below.refl _ _) | (with_reducible assumption) | (with_reducible refine Below.alloc ?_ ?_ _) | (with_reducible refine Below.drew ?_) | (with_reducible refine below_drewN ?_ _) | (with_reducible refine Below.setCell ?_ ?_ _) | (with_reducible refine below_after ?_ ?_ _) | (with_reducible refine below_set ?_) | (with_reducible refine After.size_le _ ?_) | (with_reducible refine size_alloc_le ?_) | (with_reducible refine size_set_le ?_) | (with_reducible refine size_drewN_le ?_) | go_size))⟩
set_option maxRecDepth 100000 in
set_option maxHeartbeats 400000 in
theorem least_ok (b off cap n : Nat) (f : Nat → Nat → Int) (w : World) (hb : b < w.heap.size) (hn : n ≤ 40) (hc : MkCells w b off n f)
    (ha : MSay w (.slice (some ⟨b, off, none⟩) n cap) true) :
    Calls Try.prog 16 #[.slice (some ⟨b, off, none⟩) n cap] w fun x w' => ∃ v, x = .returned (.tuple #[v, .int .i64 0]) ∧ PtRow w' w.heap.size v n (fun i j => if j = 0 then f i 0 else f i 1) ∧ Below w.heap.size w w' := by
  have HA := Lib.hid (offsets_east b off cap n f w hb hn hc ha)
  clear ha hc
  go_enter Try.func16, Try.ntmps16
  go_wp2_with fail
  refine HA.out.mono ?_
  rintro x w1 ⟨v, rfl, h1, h2⟩
  have H1 := Lib.hid h1
  have H2 := Lib.hid h2
  clear h1 h2
  go_wp2
  go_returns
  exact ⟨_, rfl, H1.out, H2.out⟩
set_option maxRecDepth 100000 in
set_option maxHeartbeats 400000 in
theorem reast_bad (v : Value) (w : World) (ha : RMSay w v false) :
    Calls Try.prog 17 #[v] w fun x w' => x = .returned (.tuple #[.slice none 0 0, .int .i64 1]) ∧ Below w.heap.size w w' := by
  have HA : Hid (∀ W, Below w.heap.size w W → _) := ha
  clear ha
  go_enter Try.func17, Try.ntmps17
  (go_wp2_with fail); refine calls_after (HA.out _ (by (repeat' (first | (with_reducible exact Below.refl _ _) | (with_reducible assumption) | (with_reducible refine Below.alloc ?_ ?_ _) | (with_reducible refine Below.drew ?_) | (with_reducible refine below_drewN ?_ _) | (with_reducible refine Below.setCell ?_ ?_ _) | (with_reducible refine below_after ?_ ?_ _) | (with_reducible refine below_set ?_) | (with_reducible refine After.size_le _ ?_) | (with_reducible refine size_alloc_le ?_) | (with_reducible refine size_set_le ?_) | (with_reducible refine size_drewN_le ?_) | go_size)))) ?_; intro x1
  go_wp2
  go_returns
  exact ⟨rfl, by (repeat' (first | (with_reducible exact Below.refl _ _) | (with_reducible assumption) | (with_reducible refine Below.alloc ?_ ?_ _) | (with_reducible refine Below.drew ?_) | (with_reducible refine below_drewN ?_ _) | (with_reducible refine Below.setCell ?_ ?_ _) | (with_reducible refine below_after ?_ ?_ _) | (with_reducible refine below_set ?_) | (with_reducible refine After.size_le _ ?_) | (with_reducible refine size_alloc_le ?_) | (with_reducible refine size_set_le ?_) | (with_reducible refine size_drewN_le ?_) | go_size))⟩
set_option maxRecDepth 100000 in
set_option maxHeartbeats 1000000 in
theorem reast_ok (b off cap n : Nat) (f : Nat → Nat → Int) (w : World) (hb : b < w.heap.size) (h1 : 1 ≤ n) (hn : n ≤ 40) (hc : MkCells w b off n f)
    (ha : RMSay w (.slice (some ⟨b, off, none⟩) n cap) true) :
    Calls Try.prog 17 #[.slice (some ⟨b, off, none⟩) n cap] w fun x w' => ∃ v, x = .returned (.tuple #[v, .int .i64 0]) ∧ PtRow w' w.heap.size v n (fun i j => if j = 0 then f i 0 else f i 1) ∧ Below w.heap.size w w' := by
  have HA : Hid (∀ W, Below w.heap.size w W → _) := ha
  have HC := Lib.hid hc
  clear ha hc
  obtain ⟨i0, hi, hz0, hz1, hz2⟩ := info_parts ptInfo2
  go_enter Try.func17, Try.ntmps17
  (go_wp2_with fail); refine calls_after (HA.out _ (by (repeat' (first | (with_reducible exact Below.refl _ _) | (with_reducible assumption) | (with_reducible refine Below.alloc ?_ ?_ _) | (with_reducible refine Below.drew ?_) | (with_reducible refine below_drewN ?_ _) | (with_reducible refine Below.setCell ?_ ?_ _) | (with_reducible refine below_after ?_ ?_ _) | (with_reducible refine below_set ?_) | (with_reducible refine After.size_le _ ?_) | (with_reducible refine size_alloc_le ?_) | (with_reducible refine size_set_le ?_) | (with_reducible refine size_drewN_le ?_) | go_size)))) ?_; intro x1
  clear HA
  go_wp2
  go_loopw [4, 5] (fun v i wr => ∃ k : Nat, k ≤ n ∧ i = .int .i64 k ∧ wr.ownsRow w.heap.size 37 2 v k (pcs k (fun i j => if j = 0 then f i 0 else f i 1)) ∧ Below w.heap.size w wr) (fun _ i _ => n - (intOf i).toNat)
  case atStart => exact ⟨0, by omega, rfl, World.ownsRow_nil _ _ _ _, x1.out⟩
  case round =>
    obtain ⟨k, hk, rfl, hown, hbel⟩ := hrel
    by_cases hlt : k < n
    · obtain ⟨c1, c2, c3⟩ := HC.out k hlt
      have c1 := (hbel.cell (p := ⟨b, _, none⟩) hb).trans c1
      have c2 := (hbel.cell (p := ⟨b, _, none⟩) hb).trans c2
      have c3 := (hbel.cell (p := ⟨b, _, none⟩) hb).trans c3
      have hbk := Nat.lt_of_lt_of_le hb hbel.size
      have hsz := hbel.size
      have ag : some b ≠ u4.ownBlock := fun e => by have := (hown.lt b e.symm).1; omega
      have kn : (k : Int) < (n : Int) := by omega
      clear c3
      go_wp2_with fail
      go_region_held3 (fun w' => w'.cell? ⟨b, off + k * 3, none⟩ = some (.int .i64 (f k 0)) ∧ w'.cell? ⟨b, off + k * 3 + 1, none⟩ = some (.int .i64 (f k 1)))
        (first
          | go_keep
          | (go_split_ands
             refine ⟨?_, ?_⟩
             · (rw [hgrow.cell_far _ (by simp; omega) ag]; assumption)
             · (rw [hgrow.cell_far _ (by simp; omega) ag]; assumption)))
        ((refine step_append_lies _ (by rfl) _ _ _ (by rfl) w.heap.size 37 i0 _ 2 16 Try.underlying24 hi hz0 hz1 hz2 rfl (by omega) u4 k (pcs k (fun i j => if j = 0 then f i 0 else f i 1)) (by rfl) ((hown.alloc _).drew)
            ⟨wr.heap.size, 0, none⟩ 1 1 [.int .i64 (f k 0), .int .i64 (f k 1)] (by rfl) (by rfl) (World.news_of_block (cs := #[.int .i64 (f k 0), .int .i64 (f k 1)]) (t := 37) (fr := (0, 0)) (heap_alloc_new wr _)) (by simp [Value.oneCell'])
            (by omega) (by unfold maxLen; omega) (by omega) (by simp; omega) (wr.heap.size + 1) (by simp) ?_; intro gg cap2 w1 hown1 hgrow hat hlt2))
      have hbel2 : Below w.heap.size w w1 := (hbel.alloc hbel.size (.cells #[.int .i64 (f k 0), .int .i64 (f k 1)] 37)).drew.grown hgrow (by simp; omega) (fun j e => (hown.lt j e).1)
      have HO1 := Lib.hid hown1
      have HB2 := Lib.hid hbel2
      clear hown1 hgrow hat hlt2 hbel2 hown hbel
      go_wp2
      go_roundw
      case rel => exact ⟨k + 1, by omega, by go_num, by rw [pcs_succ]; exact HO1.out, HB2.out⟩
      case measure => simp [intOf]; omega
    · obtain rfl : n = k := by omega
      have HO := Lib.hid hown
      have HBl := Lib.hid hbel
      clear hown hbel
      go_wp2
      go_returns
      exact ⟨_, rfl, ptRow_of HO.out h1, HBl.out⟩

/-! ### north -/
set_option maxRecDepth 100000 in
set_option maxHeartbeats 400000 in
theorem lnorth_bad (v : Value) (w : World) (ha : MSay w v false) :
    Calls Try.prog 21 #[v] w fun x w' => x = .returned (.tuple #[.slice none 0 0, .int .i64 1]) ∧ Below w.heap.size w w' := by
  have HA := Lib.hid (offsets_bad v 62 w ha)
  clear ha
  go_enter Try.func21, Try.ntmps21
  (go_wp2_with fail); refine calls_after (HA.out) ?_; intro x1
  go_wp2
  go_returns
  exact ⟨rfl, by (repeat' (first | (with_reducible exact Below.refl _ _) | (with_reducible assumption) | (with_reducible refine Below.alloc ?_ ?_ _) | (with_reducible refine Below.drew ?_) | (with_reducible refine below_drewN ?_ _) | (with_reducible refine Below.setCell ?_ ?_ _) | (with_reducible refine below_after ?_ ?_ _) | (with_reducible refine below_set ?_) | (with_reducible refine After.size_le _ ?_) | (with_reducible refine size_alloc_le ?_) | (with_reducible refine size_set_le ?_) | (with_reducible refine size_drewN_le ?_) | go_size))⟩
set_option maxRecDepth 100000 in
set_option maxHeartbeats 400000 in
theorem lnorth_ok (b off cap n : Nat) (f : Nat → Nat → Int) (w : World) (hb : b < w.heap.size) (hn : n ≤ 40) (hc : MkCells w b off n f)
    (ha : MSay w (.slice (some ⟨b, off, none⟩) n cap) true) :
    Calls Try.prog 21 #[.slice (some ⟨b, off, none⟩) n cap] w fun x w' => ∃ v, x = .returned (.tuple #[v, .int .i64 0]) ∧ PtRow w' w.heap.size v n (fun i j => if j = 0 then f i 0 else f i 2) ∧ Below w.heap.size w w' := by
  have HA := Lib.hid (offsets_north b off cap n f w hb hn hc ha)
  clear ha hc
  go_enter Try.func21, Try.ntmps21
  go_wp2_with fail
  refine HA.out.mono ?_
  rintro x w1 ⟨v, rfl, h1, h2⟩
  have H1 := Lib.hid h1
  have H2 := Lib.hid h2
  clear h1 h2
  go_wp2
  go_returns
  exact ⟨_, rfl, H1.out, H2.out⟩
set_option maxRecDepth 100000 in
set_option maxHeartbeats 400000 in
theorem rnorth_bad (v : Value) (w : World) (ha : RMSay w v false) :
    Calls Try.prog 22 #[v] w fun x w' => x = .returned (.tuple #[.slice none 0 0, .int .i64 1]) ∧ Below w.heap.size w w' := by
  have HA : Hid (∀ W, Below w.heap.size w W → _) := ha
  clear ha
  go_enter Try.func22, Try.ntmps22
  (go_wp2_with fail); refine calls_after (HA.out _ (by (repeat' (first | (with_reducible exact Below.refl _ _) | (with_reducible assumption) | (with_reducible refine Below.alloc ?_ ?_ _) | (with_reducible refine Below.drew ?_) | (with_reducible refine below_drewN ?_ _) | (with_reducible refine Below.setCell ?_ ?_ _) | (with_reducible refine below_after ?_ ?_ _) | (with_reducible refine below_set ?_) | (with_reducible refine After.size_le _ ?_) | (with_reducible refine size_alloc_le ?_) | (with_reducible refine size_set_le ?_) | (with_reducible refine size_drewN_le ?_) | go_size)))) ?_; intro x1
  go_wp2
  go_returns
  exact ⟨rfl, by (repeat' (first | (with_reducible exact Below.refl _ _) | (with_reducible assumption) | (with_reducible refine Below.alloc ?_ ?_ _) | (with_reducible refine Below.drew ?_) | (with_reducible refine below_drewN ?_ _) | (with_reducible refine Below.setCell ?_ ?_ _) | (with_reducible refine below_after ?_ ?_ _) | (with_reducible refine below_set ?_) | (with_reducible refine After.size_le _ ?_) | (with_reducible refine size_alloc_le ?_) | (with_reducible refine size_set_le ?_) | (with_reducible refine size_drewN_le ?_) | go_size))⟩
set_option maxRecDepth 100000 in
set_option maxHeartbeats 1000000 in
theorem rnorth_ok (b off cap n : Nat) (f : Nat → Nat → Int) (w : World) (hb : b < w.heap.size) (h1 : 1 ≤ n) (hn : n ≤ 40) (hc : MkCells w b off n f)
    (ha : RMSay w (.slice (some ⟨b, off, none⟩) n cap) true) :
    Calls Try.prog 22 #[.slice (some ⟨b, off, none⟩) n cap] w fun x w' => ∃ v, x = .returned (.tuple #[v, .int .i64 0]) ∧ PtRow w' w.heap.size v n (fun i j => if j = 0 then f i 0 else f i 2) ∧ Below w.heap.size w w' := by
  have HA : Hid (∀ W, Below w.heap.size w W → _) := ha
  have HC := Lib.hid hc
  clear ha hc
  obtain ⟨i0, hi, hz0, hz1, hz2⟩ := info_parts ptInfo2
  go_enter Try.func22, Try.ntmps22
  (go_wp2_with fail); refine calls_after (HA.out _ (by (repeat' (first | (with_reducible exact Below.refl _ _) | (with_reducible assumption) | (with_reducible refine Below.alloc ?_ ?_ _) | (with_reducible refine Below.drew ?_) | (with_reducible refine below_drewN ?_ _) | (with_reducible refine Below.setCell ?_ ?_ _) | (with_reducible refine below_after ?_ ?_ _) | (with_reducible refine below_set ?_) | (with_reducible refine After.size_le _ ?_) | (with_reducible refine size_alloc_le ?_) | (with_reducible refine size_set_le ?_) | (with_reducible refine size_drewN_le ?_) | go_size)))) ?_; intro x1
  clear HA
  go_wp2
  go_loopw [4, 5] (fun v i wr => ∃ k : Nat, k ≤ n ∧ i = .int .i64 k ∧ wr.ownsRow w.heap.size 37 2 v k (pcs k (fun i j => if j = 0 then f i 0 else f i 2)) ∧ Below w.heap.size w wr) (fun _ i _ => n - (intOf i).toNat)
  case atStart => exact ⟨0, by omega, rfl, World.ownsRow_nil _ _ _ _, x1.out⟩
  case round =>
    obtain ⟨k, hk, rfl, hown, hbel⟩ := hrel
    by_cases hlt : k < n
    · obtain ⟨c1, c2, c3⟩ := HC.out k hlt
      have c1 := (hbel.cell (p := ⟨b, _, none⟩) hb).trans c1
      have c2 := (hbel.cell (p := ⟨b, _, none⟩) hb).trans c2
      have c3 := (hbel.cell (p := ⟨b, _, none⟩) hb).trans c3
      have hbk := Nat.lt_of_lt_of_le hb hbel.size
      have hsz := hbel.size
      have ag : some b ≠ u4.ownBlock := fun e => by have := (hown.lt b e.symm).1; omega
      have kn : (k : Int) < (n : Int) := by omega
      clear c2
      go_wp2_with fail
      go_region_held3 (fun w' => w'.cell? ⟨b, off + k * 3, none⟩ = some (.int .i64 (f k 0)) ∧ w'.cell? ⟨b, off + k * 3 + 2, none⟩ = some (.int .i64 (f k 2)))
        (first
          | go_keep
          | (go_split_ands
             refine ⟨?_, ?_⟩
             · (rw [hgrow.cell_far _ (by simp; omega) ag]; assumption)
             · (rw [hgrow.cell_far _ (by simp; omega) ag]; assumption)))
        ((refine step_append_lies _ (by rfl) _ _ _ (by rfl) w.heap.size 37 i0 _ 2 16 Try.underlying24 hi hz0 hz1 hz2 rfl (by omega) u4 k (pcs k (fun i j => if j = 0 then f i 0 else f i 2)) (by rfl) ((hown.alloc _).drew)
            ⟨wr.heap.size, 0, none⟩ 1 1 [.int .i64 (f k 0), .int .i64 (f k 2)] (by rfl) (by rfl) (World.news_of_block (cs := #[.int .i64 (f k 0), .int .i64 (f k 2)]) (t := 37) (fr := (0, 0)) (heap_alloc_new wr _)) (by simp [Value.oneCell'])
            (by omega) (by unfold maxLen; omega) (by omega) (by simp; omega) (wr.heap.size + 1) (by simp) ?_; intro gg cap2 w1 hown1 hgrow hat hlt2))
      have hbel2 : Below w.heap.size w w1 := (hbel.alloc hbel.size (.cells #[.int .i64 (f k 0), .int .i64 (f k 2)] 37)).drew.grown hgrow (by simp; omega) (fun j e => (hown.lt j e).1)
      have HO1 := Lib.hid hown1
      have HB2 := Lib.hid hbel2
      clear hown1 hgrow hat hlt2 hbel2 hown hbel
      go_wp2
      go_roundw
      case rel => exact ⟨k + 1, by omega, by go_num, by rw [pcs_succ]; exact HO1.out, HB2.out⟩
      case measure => simp [intOf]; omega
    · obtain rfl : n = k := by omega
      have HO := Lib.hid hown
      have HBl := Lib.hid hbel
      clear hown hbel
      go_wp2
      go_returns
      exact ⟨_, rfl, ptRow_of HO.out h1, HBl.out⟩
end Go.Proofs.Ytdhobjflfhijjaa
