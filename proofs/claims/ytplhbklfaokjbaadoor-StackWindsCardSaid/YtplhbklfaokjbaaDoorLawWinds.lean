/- StackWinds: the law's walk. -/
import Derived.Test.YtplhbklfaokjbaaDoorSafes
namespace Go.Proofs.YtplhbklfaokjbaaDoor
open Go.RowKit
attribute [local go_sem] After.cell After.frozen After.lt After.le After.ne After.ne' After.set_eq After.size_set After.lt_add

/-- Open answers a list of m beds, in every later world. -/
def NSay (w : World) (v : Value) (p s : Int) (m : Nat) : Prop := ∀ W, Below w.heap.size w W → Calls Tryd.prog 31 #[v, .int .i64 p, .int .i64 s] W fun r w' => ∃ a cap, r = .returned (.tuple #[.slice a m cap, .int .i64 0]) ∧ Below W.heap.size W w'
theorem nsay {w : World} {a : Option Addr} {n cap : Nat} {f : Nat → Nat → Int} (hT : Tab w) (h : Crs w w.heap.size (.slice a n cap) n f) (hl : n ≤ 1000) (hG : GoodC n f) (p s : Nat) (hs : s < 4) (hp : p ≤ 10000) : NSay w (.slice a n cap) p s (opL f n p s n).length := fun W hB => by
  have hw : WindOk p s := ⟨⟨by omega, by omega⟩, by constructor <;> omega⟩
  have h1 := hG.1
  have hW := wsay h hl (p : Nat) (s : Nat)
  rw [show cwE (decide (GoodC n f)) (p : Nat) (s : Nat) = 0 by unfold cwE; rw [decide_eq_true hG, if_pos rfl, if_pos hw]] at hW
  obtain ⟨a', cap', e1, hc⟩ := h
  cases e1
  obtain ⟨b, off, rfl, hb, hc⟩ := hc h1
  refine (open_ok b off cap n f p s W (Nat.lt_of_lt_of_le hb hB.size) (hc.on hb hB) hG (hT.on hB) hw (hW.on2 hB)).mono ?_
  rintro e w' ⟨v, rfl, ⟨a, c, rfl, -⟩, h3⟩
  exact ⟨a, c, rfl, h3⟩

set_option maxRecDepth 100000 in
set_option maxHeartbeats 1000000 in
theorem stackWinds_long (a : Option Addr) (n cap : Nat) (s l : Int) (w : World) (hT : Tab w) (h : 12 < n) :
    Calls Tryd.prog 7 #[.slice a n cap, .int .i64 s, .int .i64 l] w fun e w' => e = .returned (.bool true) ∧ Below w.heap.size w w' := by
  have HT := Lib.hid (awake_any w hT)
  clear hT
  have d1 : decide ((12 : Int) < (n : Int)) = true := decide_eq_true (by omega)
  go_enter Tryd.func7, Tryd.ntmps7
  go_wp2_with fail
  refine calls_after HT.out ?_
  intro x1
  go_wp2
  go_ret
  exact ⟨rfl, by (repeat' (first | (with_reducible exact Below.refl _ _) | (with_reducible assumption) | (with_reducible refine Below.alloc ?_ ?_ _) | (with_reducible refine Below.drew ?_) | (with_reducible refine below_drewN ?_ _) | (with_reducible refine Below.setCell ?_ ?_ _) | (with_reducible refine below_after ?_ ?_ _) | (with_reducible refine below_set ?_) | (with_reducible refine After.size_le _ ?_) | (with_reducible refine size_alloc_le ?_) | (with_reducible refine size_set_le ?_) | (with_reducible refine size_drewN_le ?_) | go_size))⟩
set_option maxRecDepth 100000 in
set_option maxHeartbeats 1000000 in
theorem stackWinds_err (a : Option Addr) (n cap : Nat) (s l r e : Int) (w : World) (hT : Tab w) (h : n ≤ 12) (he : (e == 0) = false) (hS : LSay w 38 #[.slice a n cap, .int .i64 s] (.tuple #[.int .i64 r, .int .i64 e])) :
    Calls Tryd.prog 7 #[.slice a n cap, .int .i64 s, .int .i64 l] w fun e w' => e = .returned (.bool true) ∧ Below w.heap.size w w' := by
  have H1 : Hid (∀ W, Below w.heap.size w W → _) := hS
  have H9 : Hid (∀ W, Below w.heap.size w W → _) := fun W hW => awake_any W (hT.on hW)
  clear hT hS
  have d1 : decide ((12 : Int) < (n : Int)) = false := decide_eq_false (by omega)
  go_enter Tryd.func7, Tryd.ntmps7
  (go_wp2_with fail); refine calls_after (H1.out _ (by (repeat' (first | (with_reducible exact Below.refl _ _) | (with_reducible assumption) | (with_reducible refine Below.alloc ?_ ?_ _) | (with_reducible refine Below.drew ?_) | (with_reducible refine below_drewN ?_ _) | (with_reducible refine Below.setCell ?_ ?_ _) | (with_reducible refine below_after ?_ ?_ _) | (with_reducible refine below_set ?_) | (with_reducible refine After.size_le _ ?_) | (with_reducible refine size_alloc_le ?_) | (with_reducible refine size_set_le ?_) | (with_reducible refine size_drewN_le ?_) | go_size)))) ?_; intro x1
  (go_wp2_with fail); refine calls_after2 (H9.out _ (by (repeat' (first | (with_reducible exact Below.refl _ _) | (with_reducible assumption) | (with_reducible refine Below.alloc ?_ ?_ _) | (with_reducible refine Below.drew ?_) | (with_reducible refine below_drewN ?_ _) | (with_reducible refine Below.setCell ?_ ?_ _) | (with_reducible refine below_after ?_ ?_ _) | (with_reducible refine below_set ?_) | (with_reducible refine After.size_le _ ?_) | (with_reducible refine size_alloc_le ?_) | (with_reducible refine size_set_le ?_) | (with_reducible refine size_drewN_le ?_) | go_size)))) ?_; intro x2
  go_wp2
  go_ret
  exact ⟨rfl, by (repeat' (first | (with_reducible exact Below.refl _ _) | (with_reducible assumption) | (with_reducible refine Below.alloc ?_ ?_ _) | (with_reducible refine Below.drew ?_) | (with_reducible refine below_drewN ?_ _) | (with_reducible refine Below.setCell ?_ ?_ _) | (with_reducible refine below_after ?_ ?_ _) | (with_reducible refine below_set ?_) | (with_reducible refine After.size_le _ ?_) | (with_reducible refine size_alloc_le ?_) | (with_reducible refine size_set_le ?_) | (with_reducible refine size_drewN_le ?_) | go_size))⟩
set_option maxRecDepth 100000 in
set_option maxHeartbeats 2000000 in
theorem stackWinds_ok (a : Option Addr) (n cap : Nat) (s l : Int) (r : Nat) (w : World) (hT : Tab w) (h : n ≤ 12) (hr : r ≤ 10000) (hS : LSay w 38 #[.slice a n cap, .int .i64 s] (.tuple #[.int .i64 r, .int .i64 0]))
    (h2 : NSay w (.slice a n cap) r s 0) (h3 : ∀ l : Nat, l < r → NSay w (.slice a n cap) l s 0) (h4 : r < 10000 → ∃ m, 0 < m ∧ NSay w (.slice a n cap) ((r : Int) + 1) s m) :
    Calls Tryd.prog 7 #[.slice a n cap, .int .i64 s, .int .i64 l] w fun e w' => e = .returned (.bool true) ∧ Below w.heap.size w w' := by
  have H1 : Hid (∀ W, Below w.heap.size w W → _) := hS
  have H2 : Hid (∀ W, Below w.heap.size w W → _) := h2
  have H9 : Hid (∀ W, Below w.heap.size w W → _) := fun W hW => awake_any W (hT.on hW)
  clear hT hS h2
  have d1 : decide ((12 : Int) < (n : Int)) = false := decide_eq_false (by omega)
  by_cases hl : 0 ≤ l ∧ l < r
  · obtain ⟨l0, l1⟩ := hl
    obtain ⟨l, rfl⟩ := Int.eq_ofNat_of_zero_le l0
    have H3 : Hid (∀ W, Below w.heap.size w W → _) := h3 l (by omega)
    have d2 : decide ((0 : Int) ≤ (l : Int)) = true := decide_eq_true (by omega)
    have d3 : decide ((l : Int) < (r : Int)) = true := decide_eq_true (by omega)
    clear h3
    by_cases hm : r < 10000
    · obtain ⟨m, hm0, h4⟩ := h4 hm
      have H4 : Hid (∀ W, Below w.heap.size w W → _) := h4
      clear h4
      have d4 : decide ((10000 : Int) ≤ (r : Int)) = false := decide_eq_false (by omega)
      have d5 : decide ((0 : Int) < (m : Int)) = true := decide_eq_true (by omega)
      go_enter Tryd.func7, Tryd.ntmps7
      (go_wp2_with fail); refine calls_after (H1.out _ (by (repeat' (first | (with_reducible exact Below.refl _ _) | (with_reducible assumption) | (with_reducible refine Below.alloc ?_ ?_ _) | (with_reducible refine Below.drew ?_) | (with_reducible refine below_drewN ?_ _) | (with_reducible refine Below.setCell ?_ ?_ _) | (with_reducible refine below_after ?_ ?_ _) | (with_reducible refine below_set ?_) | (with_reducible refine After.size_le _ ?_) | (with_reducible refine size_alloc_le ?_) | (with_reducible refine size_set_le ?_) | (with_reducible refine size_drewN_le ?_) | go_size)))) ?_; intro x1
      go_wp2_with fail
      refine (H2.out _ (by (repeat' (first | (with_reducible exact Below.refl _ _) | (with_reducible assumption) | (with_reducible refine Below.alloc ?_ ?_ _) | (with_reducible refine Below.drew ?_) | (with_reducible refine below_drewN ?_ _) | (with_reducible refine Below.setCell ?_ ?_ _) | (with_reducible refine below_after ?_ ?_ _) | (with_reducible refine below_set ?_) | (with_reducible refine After.size_le _ ?_) | (with_reducible refine size_alloc_le ?_) | (with_reducible refine size_set_le ?_) | (with_reducible refine size_drewN_le ?_) | go_size)))).mono ?_
      rintro e w1 ⟨a1, c1, rfl, b1⟩
      obtain ⟨x2, rfl⟩ := after_ofB (x1.out.trans (b1.mono x1.out.size))
      clear b1
      go_wp2_with fail
      refine (H3.out _ (by (repeat' (first | (with_reducible exact Below.refl _ _) | (with_reducible assumption) | (with_reducible refine Below.alloc ?_ ?_ _) | (with_reducible refine Below.drew ?_) | (with_reducible refine below_drewN ?_ _) | (with_reducible refine Below.setCell ?_ ?_ _) | (with_reducible refine below_after ?_ ?_ _) | (with_reducible refine below_set ?_) | (with_reducible refine After.size_le _ ?_) | (with_reducible refine size_alloc_le ?_) | (with_reducible refine size_set_le ?_) | (with_reducible refine size_drewN_le ?_) | go_size)))).mono ?_
      rintro e w1 ⟨a2, c2, rfl, b1⟩
      obtain ⟨x3, rfl⟩ := after_ofB (x2.out.trans (b1.mono x2.out.size))
      clear b1
      go_wp2_with fail
      refine (H4.out _ (by (repeat' (first | (with_reducible exact Below.refl _ _) | (with_reducible assumption) | (with_reducible refine Below.alloc ?_ ?_ _) | (with_reducible refine Below.drew ?_) | (with_reducible refine below_drewN ?_ _) | (with_reducible refine Below.setCell ?_ ?_ _) | (with_reducible refine below_after ?_ ?_ _) | (with_reducible refine below_set ?_) | (with_reducible refine After.size_le _ ?_) | (with_reducible refine size_alloc_le ?_) | (with_reducible refine size_set_le ?_) | (with_reducible refine size_drewN_le ?_) | go_size)))).mono ?_
      rintro e w1 ⟨a3, c3, rfl, b1⟩
      obtain ⟨x5, rfl⟩ := after_ofB (x3.out.trans (b1.mono x3.out.size))
      clear b1
      (go_wp2_with fail); refine calls_after2 (H9.out _ (by (repeat' (first | (with_reducible exact Below.refl _ _) | (with_reducible assumption) | (with_reducible refine Below.alloc ?_ ?_ _) | (with_reducible refine Below.drew ?_) | (with_reducible refine below_drewN ?_ _) | (with_reducible refine Below.setCell ?_ ?_ _) | (with_reducible refine below_after ?_ ?_ _) | (with_reducible refine below_set ?_) | (with_reducible refine After.size_le _ ?_) | (with_reducible refine size_alloc_le ?_) | (with_reducible refine size_set_le ?_) | (with_reducible refine size_drewN_le ?_) | go_size)))) ?_; intro x4
      go_wp2
      go_ret
      exact ⟨rfl, by (repeat' (first | (with_reducible exact Below.refl _ _) | (with_reducible assumption) | (with_reducible refine Below.alloc ?_ ?_ _) | (with_reducible refine Below.drew ?_) | (with_reducible refine below_drewN ?_ _) | (with_reducible refine Below.setCell ?_ ?_ _) | (with_reducible refine below_after ?_ ?_ _) | (with_reducible refine below_set ?_) | (with_reducible refine After.size_le _ ?_) | (with_reducible refine size_alloc_le ?_) | (with_reducible refine size_set_le ?_) | (with_reducible refine size_drewN_le ?_) | go_size))⟩
    · have d4 : decide ((10000 : Int) ≤ (r : Int)) = true := decide_eq_true (by omega)
      have d5 : ((r : Int) == 10000) = true := by rw [beq_iff_eq]; omega
      clear h4
      go_enter Tryd.func7, Tryd.ntmps7
      (go_wp2_with fail); refine calls_after (H1.out _ (by (repeat' (first | (with_reducible exact Below.refl _ _) | (with_reducible assumption) | (with_reducible refine Below.alloc ?_ ?_ _) | (with_reducible refine Below.drew ?_) | (with_reducible refine below_drewN ?_ _) | (with_reducible refine Below.setCell ?_ ?_ _) | (with_reducible refine below_after ?_ ?_ _) | (with_reducible refine below_set ?_) | (with_reducible refine After.size_le _ ?_) | (with_reducible refine size_alloc_le ?_) | (with_reducible refine size_set_le ?_) | (with_reducible refine size_drewN_le ?_) | go_size)))) ?_; intro x1
      go_wp2_with fail
      refine (H2.out _ (by (repeat' (first | (with_reducible exact Below.refl _ _) | (with_reducible assumption) | (with_reducible refine Below.alloc ?_ ?_ _) | (with_reducible refine Below.drew ?_) | (with_reducible refine below_drewN ?_ _) | (with_reducible refine Below.setCell ?_ ?_ _) | (with_reducible refine below_after ?_ ?_ _) | (with_reducible refine below_set ?_) | (with_reducible refine After.size_le _ ?_) | (with_reducible refine size_alloc_le ?_) | (with_reducible refine size_set_le ?_) | (with_reducible refine size_drewN_le ?_) | go_size)))).mono ?_
      rintro e w1 ⟨a1, c1, rfl, b1⟩
      obtain ⟨x2, rfl⟩ := after_ofB (x1.out.trans (b1.mono x1.out.size))
      clear b1
      go_wp2_with fail
      refine (H3.out _ (by (repeat' (first | (with_reducible exact Below.refl _ _) | (with_reducible assumption) | (with_reducible refine Below.alloc ?_ ?_ _) | (with_reducible refine Below.drew ?_) | (with_reducible refine below_drewN ?_ _) | (with_reducible refine Below.setCell ?_ ?_ _) | (with_reducible refine below_after ?_ ?_ _) | (with_reducible refine below_set ?_) | (with_reducible refine After.size_le _ ?_) | (with_reducible refine size_alloc_le ?_) | (with_reducible refine size_set_le ?_) | (with_reducible refine size_drewN_le ?_) | go_size)))).mono ?_
      rintro e w1 ⟨a2, c2, rfl, b1⟩
      obtain ⟨x3, rfl⟩ := after_ofB (x2.out.trans (b1.mono x2.out.size))
      clear b1
      (go_wp2_with fail); refine calls_after2 (H9.out _ (by (repeat' (first | (with_reducible exact Below.refl _ _) | (with_reducible assumption) | (with_reducible refine Below.alloc ?_ ?_ _) | (with_reducible refine Below.drew ?_) | (with_reducible refine below_drewN ?_ _) | (with_reducible refine Below.setCell ?_ ?_ _) | (with_reducible refine below_after ?_ ?_ _) | (with_reducible refine below_set ?_) | (with_reducible refine After.size_le _ ?_) | (with_reducible refine size_alloc_le ?_) | (with_reducible refine size_set_le ?_) | (with_reducible refine size_drewN_le ?_) | go_size)))) ?_; intro x4
      go_wp2
      go_ret
      exact ⟨rfl, by (repeat' (first | (with_reducible exact Below.refl _ _) | (with_reducible assumption) | (with_reducible refine Below.alloc ?_ ?_ _) | (with_reducible refine Below.drew ?_) | (with_reducible refine below_drewN ?_ _) | (with_reducible refine Below.setCell ?_ ?_ _) | (with_reducible refine below_after ?_ ?_ _) | (with_reducible refine below_set ?_) | (with_reducible refine After.size_le _ ?_) | (with_reducible refine size_alloc_le ?_) | (with_reducible refine size_set_le ?_) | (with_reducible refine size_drewN_le ?_) | go_size))⟩
  · clear h3
    have hz : (decide ((0 : Int) ≤ l) = false) ∨ (decide ((0 : Int) ≤ l) = true ∧ decide (l < (r : Int)) = false) := by
      by_cases h0 : 0 ≤ l
      · exact .inr ⟨decide_eq_true h0, decide_eq_false (fun h => hl ⟨h0, h⟩)⟩
      · exact .inl (decide_eq_false h0)
    clear hl
    by_cases hm : r < 10000
    · obtain ⟨m, hm0, h4⟩ := h4 hm
      have H4 : Hid (∀ W, Below w.heap.size w W → _) := h4
      clear h4
      have d4 : decide ((10000 : Int) ≤ (r : Int)) = false := decide_eq_false (by omega)
      have d5 : decide ((0 : Int) < (m : Int)) = true := decide_eq_true (by omega)
      rcases hz with d2 | ⟨d2, d3⟩
      · skip
        go_enter Tryd.func7, Tryd.ntmps7
        (go_wp2_with fail); refine calls_after (H1.out _ (by (repeat' (first | (with_reducible exact Below.refl _ _) | (with_reducible assumption) | (with_reducible refine Below.alloc ?_ ?_ _) | (with_reducible refine Below.drew ?_) | (with_reducible refine below_drewN ?_ _) | (with_reducible refine Below.setCell ?_ ?_ _) | (with_reducible refine below_after ?_ ?_ _) | (with_reducible refine below_set ?_) | (with_reducible refine After.size_le _ ?_) | (with_reducible refine size_alloc_le ?_) | (with_reducible refine size_set_le ?_) | (with_reducible refine size_drewN_le ?_) | go_size)))) ?_; intro x1
        go_wp2_with fail
        refine (H2.out _ (by (repeat' (first | (with_reducible exact Below.refl _ _) | (with_reducible assumption) | (with_reducible refine Below.alloc ?_ ?_ _) | (with_reducible refine Below.drew ?_) | (with_reducible refine below_drewN ?_ _) | (with_reducible refine Below.setCell ?_ ?_ _) | (with_reducible refine below_after ?_ ?_ _) | (with_reducible refine below_set ?_) | (with_reducible refine After.size_le _ ?_) | (with_reducible refine size_alloc_le ?_) | (with_reducible refine size_set_le ?_) | (with_reducible refine size_drewN_le ?_) | go_size)))).mono ?_
        rintro e w1 ⟨a1, c1, rfl, b1⟩
        obtain ⟨x2, rfl⟩ := after_ofB (x1.out.trans (b1.mono x1.out.size))
        clear b1
        go_wp2_with fail
        refine (H4.out _ (by (repeat' (first | (with_reducible exact Below.refl _ _) | (with_reducible assumption) | (with_reducible refine Below.alloc ?_ ?_ _) | (with_reducible refine Below.drew ?_) | (with_reducible refine below_drewN ?_ _) | (with_reducible refine Below.setCell ?_ ?_ _) | (with_reducible refine below_after ?_ ?_ _) | (with_reducible refine below_set ?_) | (with_reducible refine After.size_le _ ?_) | (with_reducible refine size_alloc_le ?_) | (with_reducible refine size_set_le ?_) | (with_reducible refine size_drewN_le ?_) | go_size)))).mono ?_
        rintro e w1 ⟨a3, c3, rfl, b1⟩
        obtain ⟨x5, rfl⟩ := after_ofB (x2.out.trans (b1.mono x2.out.size))
        clear b1
        (go_wp2_with fail); refine calls_after2 (H9.out _ (by (repeat' (first | (with_reducible exact Below.refl _ _) | (with_reducible assumption) | (with_reducible refine Below.alloc ?_ ?_ _) | (with_reducible refine Below.drew ?_) | (with_reducible refine below_drewN ?_ _) | (with_reducible refine Below.setCell ?_ ?_ _) | (with_reducible refine below_after ?_ ?_ _) | (with_reducible refine below_set ?_) | (with_reducible refine After.size_le _ ?_) | (with_reducible refine size_alloc_le ?_) | (with_reducible refine size_set_le ?_) | (with_reducible refine size_drewN_le ?_) | go_size)))) ?_; intro x4
        go_wp2
        go_ret
        exact ⟨rfl, by (repeat' (first | (with_reducible exact Below.refl _ _) | (with_reducible assumption) | (with_reducible refine Below.alloc ?_ ?_ _) | (with_reducible refine Below.drew ?_) | (with_reducible refine below_drewN ?_ _) | (with_reducible refine Below.setCell ?_ ?_ _) | (with_reducible refine below_after ?_ ?_ _) | (with_reducible refine below_set ?_) | (with_reducible refine After.size_le _ ?_) | (with_reducible refine size_alloc_le ?_) | (with_reducible refine size_set_le ?_) | (with_reducible refine size_drewN_le ?_) | go_size))⟩
      · skip
        go_enter Tryd.func7, Tryd.ntmps7
        (go_wp2_with fail); refine calls_after (H1.out _ (by (repeat' (first | (with_reducible exact Below.refl _ _) | (with_reducible assumption) | (with_reducible refine Below.alloc ?_ ?_ _) | (with_reducible refine Below.drew ?_) | (with_reducible refine below_drewN ?_ _) | (with_reducible refine Below.setCell ?_ ?_ _) | (with_reducible refine below_after ?_ ?_ _) | (with_reducible refine below_set ?_) | (with_reducible refine After.size_le _ ?_) | (with_reducible refine size_alloc_le ?_) | (with_reducible refine size_set_le ?_) | (with_reducible refine size_drewN_le ?_) | go_size)))) ?_; intro x1
        go_wp2_with fail
        refine (H2.out _ (by (repeat' (first | (with_reducible exact Below.refl _ _) | (with_reducible assumption) | (with_reducible refine Below.alloc ?_ ?_ _) | (with_reducible refine Below.drew ?_) | (with_reducible refine below_drewN ?_ _) | (with_reducible refine Below.setCell ?_ ?_ _) | (with_reducible refine below_after ?_ ?_ _) | (with_reducible refine below_set ?_) | (with_reducible refine After.size_le _ ?_) | (with_reducible refine size_alloc_le ?_) | (with_reducible refine size_set_le ?_) | (with_reducible refine size_drewN_le ?_) | go_size)))).mono ?_
        rintro e w1 ⟨a1, c1, rfl, b1⟩
        obtain ⟨x2, rfl⟩ := after_ofB (x1.out.trans (b1.mono x1.out.size))
        clear b1
        go_wp2_with fail
        refine (H4.out _ (by (repeat' (first | (with_reducible exact Below.refl _ _) | (with_reducible assumption) | (with_reducible refine Below.alloc ?_ ?_ _) | (with_reducible refine Below.drew ?_) | (with_reducible refine below_drewN ?_ _) | (with_reducible refine Below.setCell ?_ ?_ _) | (with_reducible refine below_after ?_ ?_ _) | (with_reducible refine below_set ?_) | (with_reducible refine After.size_le _ ?_) | (with_reducible refine size_alloc_le ?_) | (with_reducible refine size_set_le ?_) | (with_reducible refine size_drewN_le ?_) | go_size)))).mono ?_
        rintro e w1 ⟨a3, c3, rfl, b1⟩
        obtain ⟨x5, rfl⟩ := after_ofB (x2.out.trans (b1.mono x2.out.size))
        clear b1
        (go_wp2_with fail); refine calls_after2 (H9.out _ (by (repeat' (first | (with_reducible exact Below.refl _ _) | (with_reducible assumption) | (with_reducible refine Below.alloc ?_ ?_ _) | (with_reducible refine Below.drew ?_) | (with_reducible refine below_drewN ?_ _) | (with_reducible refine Below.setCell ?_ ?_ _) | (with_reducible refine below_after ?_ ?_ _) | (with_reducible refine below_set ?_) | (with_reducible refine After.size_le _ ?_) | (with_reducible refine size_alloc_le ?_) | (with_reducible refine size_set_le ?_) | (with_reducible refine size_drewN_le ?_) | go_size)))) ?_; intro x4
        go_wp2
        go_ret
        exact ⟨rfl, by (repeat' (first | (with_reducible exact Below.refl _ _) | (with_reducible assumption) | (with_reducible refine Below.alloc ?_ ?_ _) | (with_reducible refine Below.drew ?_) | (with_reducible refine below_drewN ?_ _) | (with_reducible refine Below.setCell ?_ ?_ _) | (with_reducible refine below_after ?_ ?_ _) | (with_reducible refine below_set ?_) | (with_reducible refine After.size_le _ ?_) | (with_reducible refine size_alloc_le ?_) | (with_reducible refine size_set_le ?_) | (with_reducible refine size_drewN_le ?_) | go_size))⟩
    · have d4 : decide ((10000 : Int) ≤ (r : Int)) = true := decide_eq_true (by omega)
      have d5 : ((r : Int) == 10000) = true := by rw [beq_iff_eq]; omega
      clear h4
      rcases hz with d2 | ⟨d2, d3⟩
      · skip
        go_enter Tryd.func7, Tryd.ntmps7
        (go_wp2_with fail); refine calls_after (H1.out _ (by (repeat' (first | (with_reducible exact Below.refl _ _) | (with_reducible assumption) | (with_reducible refine Below.alloc ?_ ?_ _) | (with_reducible refine Below.drew ?_) | (with_reducible refine below_drewN ?_ _) | (with_reducible refine Below.setCell ?_ ?_ _) | (with_reducible refine below_after ?_ ?_ _) | (with_reducible refine below_set ?_) | (with_reducible refine After.size_le _ ?_) | (with_reducible refine size_alloc_le ?_) | (with_reducible refine size_set_le ?_) | (with_reducible refine size_drewN_le ?_) | go_size)))) ?_; intro x1
        go_wp2_with fail
        refine (H2.out _ (by (repeat' (first | (with_reducible exact Below.refl _ _) | (with_reducible assumption) | (with_reducible refine Below.alloc ?_ ?_ _) | (with_reducible refine Below.drew ?_) | (with_reducible refine below_drewN ?_ _) | (with_reducible refine Below.setCell ?_ ?_ _) | (with_reducible refine below_after ?_ ?_ _) | (with_reducible refine below_set ?_) | (with_reducible refine After.size_le _ ?_) | (with_reducible refine size_alloc_le ?_) | (with_reducible refine size_set_le ?_) | (with_reducible refine size_drewN_le ?_) | go_size)))).mono ?_
        rintro e w1 ⟨a1, c1, rfl, b1⟩
        obtain ⟨x2, rfl⟩ := after_ofB (x1.out.trans (b1.mono x1.out.size))
        clear b1
        (go_wp2_with fail); refine calls_after2 (H9.out _ (by (repeat' (first | (with_reducible exact Below.refl _ _) | (with_reducible assumption) | (with_reducible refine Below.alloc ?_ ?_ _) | (with_reducible refine Below.drew ?_) | (with_reducible refine below_drewN ?_ _) | (with_reducible refine Below.setCell ?_ ?_ _) | (with_reducible refine below_after ?_ ?_ _) | (with_reducible refine below_set ?_) | (with_reducible refine After.size_le _ ?_) | (with_reducible refine size_alloc_le ?_) | (with_reducible refine size_set_le ?_) | (with_reducible refine size_drewN_le ?_) | go_size)))) ?_; intro x4
        go_wp2
        go_ret
        exact ⟨rfl, by (repeat' (first | (with_reducible exact Below.refl _ _) | (with_reducible assumption) | (with_reducible refine Below.alloc ?_ ?_ _) | (with_reducible refine Below.drew ?_) | (with_reducible refine below_drewN ?_ _) | (with_reducible refine Below.setCell ?_ ?_ _) | (with_reducible refine below_after ?_ ?_ _) | (with_reducible refine below_set ?_) | (with_reducible refine After.size_le _ ?_) | (with_reducible refine size_alloc_le ?_) | (with_reducible refine size_set_le ?_) | (with_reducible refine size_drewN_le ?_) | go_size))⟩
      · skip
        go_enter Tryd.func7, Tryd.ntmps7
        (go_wp2_with fail); refine calls_after (H1.out _ (by (repeat' (first | (with_reducible exact Below.refl _ _) | (with_reducible assumption) | (with_reducible refine Below.alloc ?_ ?_ _) | (with_reducible refine Below.drew ?_) | (with_reducible refine below_drewN ?_ _) | (with_reducible refine Below.setCell ?_ ?_ _) | (with_reducible refine below_after ?_ ?_ _) | (with_reducible refine below_set ?_) | (with_reducible refine After.size_le _ ?_) | (with_reducible refine size_alloc_le ?_) | (with_reducible refine size_set_le ?_) | (with_reducible refine size_drewN_le ?_) | go_size)))) ?_; intro x1
        go_wp2_with fail
        refine (H2.out _ (by (repeat' (first | (with_reducible exact Below.refl _ _) | (with_reducible assumption) | (with_reducible refine Below.alloc ?_ ?_ _) | (with_reducible refine Below.drew ?_) | (with_reducible refine below_drewN ?_ _) | (with_reducible refine Below.setCell ?_ ?_ _) | (with_reducible refine below_after ?_ ?_ _) | (with_reducible refine below_set ?_) | (with_reducible refine After.size_le _ ?_) | (with_reducible refine size_alloc_le ?_) | (with_reducible refine size_set_le ?_) | (with_reducible refine size_drewN_le ?_) | go_size)))).mono ?_
        rintro e w1 ⟨a1, c1, rfl, b1⟩
        obtain ⟨x2, rfl⟩ := after_ofB (x1.out.trans (b1.mono x1.out.size))
        clear b1
        (go_wp2_with fail); refine calls_after2 (H9.out _ (by (repeat' (first | (with_reducible exact Below.refl _ _) | (with_reducible assumption) | (with_reducible refine Below.alloc ?_ ?_ _) | (with_reducible refine Below.drew ?_) | (with_reducible refine below_drewN ?_ _) | (with_reducible refine Below.setCell ?_ ?_ _) | (with_reducible refine below_after ?_ ?_ _) | (with_reducible refine below_set ?_) | (with_reducible refine After.size_le _ ?_) | (with_reducible refine size_alloc_le ?_) | (with_reducible refine size_set_le ?_) | (with_reducible refine size_drewN_le ?_) | go_size)))) ?_; intro x4
        go_wp2
        go_ret
        exact ⟨rfl, by (repeat' (first | (with_reducible exact Below.refl _ _) | (with_reducible assumption) | (with_reducible refine Below.alloc ?_ ?_ _) | (with_reducible refine Below.drew ?_) | (with_reducible refine below_drewN ?_ _) | (with_reducible refine Below.setCell ?_ ?_ _) | (with_reducible refine below_after ?_ ?_ _) | (with_reducible refine below_set ?_) | (with_reducible refine After.size_le _ ?_) | (with_reducible refine size_alloc_le ?_) | (with_reducible refine size_set_le ?_) | (with_reducible refine size_drewN_le ?_) | go_size))⟩
theorem stackWinds_any (v : Value) (n : Nat) (f : Nat → Nat → Int) (s l : Int) (w : World) (hT : Tab w) (h : Crs w w.heap.size v n f) :
    Calls Tryd.prog 7 #[v, .int .i64 s, .int .i64 l] w fun e w' => e = .returned (.bool true) ∧ Below w.heap.size w w' := by
  have hh := h
  obtain ⟨a, cap, rfl, _⟩ := hh
  by_cases hl : n ≤ 12
  · by_cases hok : GoodC n f ∧ 0 ≤ s ∧ s < 4
    · obtain ⟨hG, h0, h4⟩ := hok
      obtain ⟨s, rfl⟩ := Int.eq_ofNat_of_zero_le h0
      obtain ⟨h1, -, -⟩ := safe_good hT h (by omega) hG s (by omega)
      have hle := saN_le f n s
      by_cases hc : tiB f n 0 s = true
      · rw [show saV f n s = saN f n s from if_pos hc, show saE f n s = 0 from if_pos hc] at h1
        have hn := fun p (hp : p ≤ 10000) => nsay hT h (by omega) hG p s (by omega) hp
        refine stackWinds_ok a n cap (s : Nat) l (saN f n s) w hT hl hle h1 ?_ (fun l hl => ?_) (fun hr => ⟨(opL f n ((saN f n s + 1 : Nat) : Int) s n).length, ?_, ?_⟩)
        · have := hn (saN f n s) hle
          rwa [opL_nil.2 (saN_in hG hc (Nat.le_refl _))] at this
        · have := hn l (by omega)
          rwa [opL_nil.2 (saN_in hG hc (by omega))] at this
        · have := saN_out (f := f) (n := n) (s := s) (i := saN f n s + 1) (by omega) (by omega)
          rcases Nat.eq_zero_or_pos (opL f n ((saN f n s + 1 : Nat) : Int) s n).length with h | h
          · rw [opL_nil.1 (List.length_eq_zero_iff.1 h)] at this; cases this
          · exact h
        · have := hn (saN f n s + 1) (by omega)
          rwa [show ((saN f n s + 1 : Nat) : Int) = (saN f n s : Int) + 1 by omega] at this ⊢
      · rw [show saE f n s = 8 from if_neg hc] at h1
        exact stackWinds_err a n cap (s : Nat) l _ 8 w hT hl rfl h1
    · obtain ⟨e, he, -, h1, -⟩ := safe_wrong h (by omega) s hok
      exact stackWinds_err a n cap s l 0 e w hT hl he h1
  · exact stackWinds_long a n cap s l w hT (by omega)
end Go.Proofs.YtplhbklfaokjbaaDoor
