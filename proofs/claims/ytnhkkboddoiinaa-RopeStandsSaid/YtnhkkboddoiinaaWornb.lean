/- What a rope has left: the uses up to a day. -/
import Derived.Test.YtnhkkboddoiinaaWorn
import Derived.Test.YtnhkkboddoiinaaSearch
import Derived.Shelf.Abstract
namespace Go.Proofs.Ytnhkkboddoiinaa
open Go.RowKit Go.Shelf
attribute [local go_sem] After.cell After.frozen After.lt After.le After.ne After.ne' After.set_eq After.size_set After.lt_add

set_option maxRecDepth 100000 in
set_option maxHeartbeats 400000 in
theorem upTo1_any (i wb db b off n cap : Nat) (dy x : Int) (w : World) (hi : i < n) (_hn : n ≤ 1000) (h3 : w.cell? ⟨wb, 3, none⟩ = some (.slice (some ⟨b, off, none⟩) n cap)) (hd : w.cell? ⟨db, 0, none⟩ = some (.int .i64 dy)) (hc : w.cell? ⟨b, off + i * 2, none⟩ = some (.int .i64 x)) :
    Calls Try.prog 105 #[.int .i64 i, .pointer (some ⟨wb, 0, none⟩), .pointer (some ⟨db, 0, none⟩)] w fun e w' => e = .returned (.bool (decide (dy < x))) ∧ ∃ m, w' = w.drewN m := by
  have hi' : (i : Int) < (n : Int) := by omega
  by_cases hx : dy < x
  · have hd : decide (dy < x) = true := decide_eq_true hx
    rw [hd]
    go_enter Try.func105, Try.ntmps105
    go_wp2
    go_quiet (fail)
    go_wp2
    go_ret
    exact ⟨ret_bool (by simp), _, rfl⟩
  · have hd : decide (dy < x) = false := decide_eq_false hx
    rw [hd]
    go_enter Try.func105, Try.ntmps105
    go_wp2
    go_quiet (fail)
    go_wp2
    go_ret
    exact ⟨ret_bool (by simp), _, rfl⟩

set_option maxRecDepth 100000 in
set_option maxHeartbeats 1000000 in
theorem withFirst_row (s d l : Int) (b off n cap r : Nat) (w : World) (hr : r ≤ n) (hn : n ≤ cap) (_hcap : cap ≤ 9223372036854775807) :
    Calls Try.prog 91 #[.agg #[.int .i64 s, .int .i64 d, .int .i64 l, .slice (some ⟨b, off, none⟩) n cap], .int .i64 r] w fun e w' => e = .returned (.agg #[.int .i64 s, .int .i64 d, .int .i64 l, .slice (some ⟨b, off, none⟩) r r]) ∧ Below w.heap.size w w' := by
  have hrc : r ≤ cap := by omega
  go_enter Try.func91, Try.ntmps91
  go_wp2_with fail
  go_region
  go_wp2
  go_returns
  exact ⟨rfl, by (repeat' (first | (with_reducible exact Below.refl _ _) | (with_reducible assumption) | (with_reducible refine Below.alloc ?_ ?_ _) | (with_reducible refine Below.drew ?_) | (with_reducible refine below_drewN ?_ _) | (with_reducible refine Below.setCell ?_ ?_ _) | (with_reducible refine below_after ?_ ?_ _) | (with_reducible refine below_set ?_) | (with_reducible refine After.size_le _ ?_) | (with_reducible refine size_alloc_le ?_) | (with_reducible refine size_set_le ?_) | (with_reducible refine size_drewN_le ?_) | go_size))⟩
set_option maxRecDepth 100000 in
set_option maxHeartbeats 1000000 in
theorem withFirst_none (s d l : Int) (w : World) :
    Calls Try.prog 91 #[.agg #[.int .i64 s, .int .i64 d, .int .i64 l, .slice none 0 0], .int .i64 0] w fun e w' => e = .returned (.agg #[.int .i64 s, .int .i64 d, .int .i64 l, .slice none 0 0]) ∧ Below w.heap.size w w' := by
  go_enter Try.func91, Try.ntmps91
  go_wp2_with fail
  go_region
  go_wp2
  go_returns
  exact ⟨rfl, by (repeat' (first | (with_reducible exact Below.refl _ _) | (with_reducible assumption) | (with_reducible refine Below.alloc ?_ ?_ _) | (with_reducible refine Below.drew ?_) | (with_reducible refine below_drewN ?_ _) | (with_reducible refine Below.setCell ?_ ?_ _) | (with_reducible refine below_after ?_ ?_ _) | (with_reducible refine below_set ?_) | (with_reducible refine After.size_le _ ?_) | (with_reducible refine size_alloc_le ?_) | (with_reducible refine size_set_le ?_) | (with_reducible refine size_drewN_le ?_) | go_size))⟩
set_option maxRecDepth 100000 in
set_option maxHeartbeats 1000000 in
theorem withFirst_empty (s d l : Int) (p : Addr) (cap : Nat) (w : World) (_hcap : cap ≤ 9223372036854775807) :
    Calls Try.prog 91 #[.agg #[.int .i64 s, .int .i64 d, .int .i64 l, .slice (some p) 0 cap], .int .i64 0] w fun e w' => e = .returned (.agg #[.int .i64 s, .int .i64 d, .int .i64 l, .slice (some p) 0 0]) ∧ Below w.heap.size w w' := by
  obtain ⟨b, off, spot⟩ := p
  go_enter Try.func91, Try.ntmps91
  go_wp2_with fail
  go_region
  go_wp2
  go_returns
  exact ⟨rfl, by (repeat' (first | (with_reducible exact Below.refl _ _) | (with_reducible assumption) | (with_reducible refine Below.alloc ?_ ?_ _) | (with_reducible refine Below.drew ?_) | (with_reducible refine below_drewN ?_ _) | (with_reducible refine Below.setCell ?_ ?_ _) | (with_reducible refine below_after ?_ ?_ _) | (with_reducible refine below_set ?_) | (with_reducible refine After.size_le _ ?_) | (with_reducible refine size_alloc_le ?_) | (with_reducible refine size_set_le ?_) | (with_reducible refine size_drewN_le ?_) | go_size))⟩

set_option maxRecDepth 100000 in
set_option maxHeartbeats 1000000 in
theorem upTo_row (s d l dy : Int) (b off cap r : Nat) (ps : List (Int × Int)) (w : World) (hb : b < w.heap.size) (h0 : 0 < ps.length) (hl : ps.length ≤ 1000) (hn : ps.length ≤ cap) (hcap : cap ≤ 9223372036854775807) (hc : PrCells w b off ps)
    (hr : r ≤ ps.length) (hr0 : ∀ i, i < r → decide (dy < (usAt ps i).1) = false) (hr1 : ∀ i, r ≤ i → i < ps.length → decide (dy < (usAt ps i).1) = true) :
    Calls Try.prog 101 #[.agg #[.int .i64 s, .int .i64 d, .int .i64 l, .slice (some ⟨b, off, none⟩) ps.length cap], .int .i64 dy] w fun e w' => e = .returned (.agg #[.int .i64 s, .int .i64 d, .int .i64 l, .slice (some ⟨b, off, none⟩) r r]) ∧ Below w.heap.size w w' := by
  have HF : Hid (∀ W, Calls Try.prog 91 #[.agg #[.int .i64 s, .int .i64 d, .int .i64 l, .slice (some ⟨b, off, none⟩) ps.length cap], .int .i64 r] W fun e w' => e = .returned (.agg #[.int .i64 s, .int .i64 d, .int .i64 l, .slice (some ⟨b, off, none⟩) r r]) ∧ Below W.heap.size W w') := fun W => withFirst_row s d l b off ps.length cap r W hr hn hcap
  have HS : Hid (∀ wb db W, Below w.heap.size w W → W.cell? ⟨wb, 3, none⟩ = some (.slice (some ⟨b, off, none⟩) ps.length cap) → W.cell? ⟨db, 0, none⟩ = some (.int .i64 dy) → Calls Try.prog 74 #[.int .i64 ps.length, .func (.func 105) #[] #[.pointer (some ⟨wb, 0, none⟩), .pointer (some ⟨db, 0, none⟩)]] W fun e w' => e = .returned (.int .i64 r) ∧ Below W.heap.size W w') := fun wb db W hW h3 hd =>
    search_any 105 #[.pointer (some ⟨wb, 0, none⟩), .pointer (some ⟨db, 0, none⟩)] (enters_of Try.func105 (by kernel_rfl) rfl) ps.length r (fun i => decide (dy < (usAt ps i).1)) W (by omega) hr hr0 hr1 (fun i hi W2 hW2 => by
      have hwb : wb < W.heap.size := World.block_lt_of_cell? W _ h3
      have hdb : db < W.heap.size := World.block_lt_of_cell? W _ hd
      have hB2 : Below w.heap.size w W2 := hW.trans (hW2.mono hW.size)
      refine (upTo1_any i wb db b off ps.length cap dy (usAt ps i).1 W2 hi hl ((hW2.cell (p := ⟨wb, 3, none⟩) hwb).trans h3) ((hW2.cell (p := ⟨db, 0, none⟩) hdb).trans hd) (prCells_on hb hc hB2 i hi).1).mono ?_
      rintro e w' ⟨h1, m, rfl⟩
      exact ⟨h1, below_drewN (Below.refl _ _) m⟩)
  clear hc hr0 hr1
  generalize ps.length = n at *
  go_enter Try.func101, Try.ntmps101
  go_wp2_with fail
  refine wp_region_after_tail 7 (by kernel_rfl) (by kernel_rfl) ?_; simp only [List.take_succ_cons, List.take_zero, List.drop_succ_cons, List.drop_zero]; (repeat (first | go_big_quiet_step ((first | (go_at_call 74; exact quiet_after (HS.out _ _ _ (by (repeat' (first | (with_reducible exact Below.refl _ _) | (with_reducible assumption) | (with_reducible refine Below.alloc ?_ ?_ _) | (with_reducible refine Below.drew ?_) | (with_reducible refine below_drewN ?_ _) | (with_reducible refine Below.setCell ?_ ?_ _) | (with_reducible refine below_after ?_ ?_ _) | (with_reducible refine below_set ?_) | (with_reducible refine After.size_le _ ?_) | (with_reducible refine size_alloc_le ?_) | (with_reducible refine size_set_le ?_) | (with_reducible refine size_drewN_le ?_) | go_size))) (by simp [go_sem]) (by simp [go_sem]))) | (go_at_call 91; exact quiet_after (HF.out _)))) | (refine wpQuiet_step (fun K hK => ?_); go_simp; first | (refine hK _ ?_; clear hK K) | (apply Exists.intro; refine ⟨fun x => ?_, hK _ ?_⟩; (first | (go_at_call 74; exact quiet_after (HS.out _ _ _ (by (repeat' (first | (with_reducible exact Below.refl _ _) | (with_reducible assumption) | (with_reducible refine Below.alloc ?_ ?_ _) | (with_reducible refine Below.drew ?_) | (with_reducible refine below_drewN ?_ _) | (with_reducible refine Below.setCell ?_ ?_ _) | (with_reducible refine below_after ?_ ?_ _) | (with_reducible refine below_set ?_) | (with_reducible refine After.size_le _ ?_) | (with_reducible refine size_alloc_le ?_) | (with_reducible refine size_set_le ?_) | (with_reducible refine size_drewN_le ?_) | go_size))) (by simp [go_sem]) (by simp [go_sem]))) | (go_at_call 91; exact quiet_after (HF.out _))); clear hK K)))); refine wpQuiet_nil ?_
  intro x1
  have hz_x1 := x1.out.size; (try simp only [World.size_alloc] at hz_x1); (try simp only [World.size_setCell] at hz_x1); (try simp only [World.size_alloc] at hz_x1); have k0_x1 : w.heap.size + 2 < x1.w.heap.size := (by omega); have j0_x1 : w.heap.size + 2 < x1.w.heap.size + 1 := (by omega)
  go_wp2_with fail
  go_returns
  exact ⟨rfl, by (repeat' (first | (with_reducible exact Below.refl _ _) | (with_reducible assumption) | (with_reducible refine Below.alloc ?_ ?_ _) | (with_reducible refine Below.drew ?_) | (with_reducible refine below_drewN ?_ _) | (with_reducible refine Below.setCell ?_ ?_ _) | (with_reducible refine below_after ?_ ?_ _) | (with_reducible refine below_set ?_) | (with_reducible refine After.size_le _ ?_) | (with_reducible refine size_alloc_le ?_) | (with_reducible refine size_set_le ?_) | (with_reducible refine size_drewN_le ?_) | go_size))⟩
end Go.Proofs.Ytnhkkboddoiinaa
