/- StackTexts: the law's walk. -/
import Derived.Test.YtcaelmaoldmgpaaDoorSsay
namespace Go.Proofs.YtcaelmaoldmgpaaDoor
open Go.RowKit Cr
attribute [local go_sem] After.cell After.frozen After.lt After.le After.ne After.ne' After.set_eq After.size_set After.lt_add tx_size tx_toList


theorem crOwn_on {W W' : World} {B : Nat} {v : Value} {n : Nat} {f : Nat → Nat → Int} (h : CrOwn W B v n f) (hb : Below W.heap.size W W') : CrOwn W' B v n f := by
  obtain ⟨g, cap, e, h1, h2, h3, h4⟩ := h
  exact ⟨g, cap, e, h1, h2, h3, h4.below hb⟩
theorem crOwn_crs {W : World} {B : Nat} {v : Value} {n : Nat} {f : Nat → Nat → Int} (h : CrOwn W B v n f) : Crs W W.heap.size v n f := h.row.crs

set_option maxRecDepth 100000 in
set_option maxHeartbeats 1000000 in
theorem stackTexts_long (a : Option Addr) (n cap : Nat) (s : ByteArray) (w : World) (hn : 100 < n) (HTab : Hid (∀ W, Below w.heap.size w W → Calls Tryd.prog 5 #[] W fun e w' => e = .returned (.bool true) ∧ Below W.heap.size W w')) :
    Calls Tryd.prog 3 #[.slice a n cap, .string s] w fun e w' => e = .returned (.bool true) ∧ Below w.heap.size w w' := by
  have hn' : (100 : Int) < (n : Int) := by omega
  go_enter Tryd.func3, Tryd.ntmps3
  go_wp2_with fail
  refine (HTab.out _ (by (repeat' (first | (with_reducible exact Below.refl _ _) | (with_reducible assumption) | (with_reducible refine Below.alloc ?_ ?_ _) | (with_reducible refine Below.drew ?_) | (with_reducible refine below_drewN ?_ _) | (with_reducible refine Below.setCell ?_ ?_ _) | (with_reducible refine below_after ?_ ?_ _) | (with_reducible refine below_set ?_) | (with_reducible refine After.size_le _ ?_) | (with_reducible refine size_alloc_le ?_) | (with_reducible refine size_set_le ?_) | (with_reducible refine size_drewN_le ?_) | go_size)))).mono ?_
  rintro e7 w7 ⟨rfl, hb7⟩
  go_wp2
  go_ret
  exact ⟨rfl, hb7⟩

section
variable (a : Option Addr) (n cap : Nat) (f : Nat → Nat → Int) (L A : List UInt8) (w : World)

set_option maxRecDepth 100000 in
set_option maxHeartbeats 1000000 in
theorem stexts_read_bad (k : Nat) (q : Nat → Nat → Int) (HTab : Hid (∀ W, Below w.heap.size w W → Calls Tryd.prog 5 #[] W fun e w' => e = .returned (.bool true) ∧ Below W.heap.size W w')) (hn : n ≤ 100) (_ : 1 ≤ k) (k2 : k ≤ 100) (HS : Hid (Std w)) (HA : Hid (formS k q = L))
    (P1 : Hid (∀ W, Below w.heap.size w W → Calls Tryd.prog 6 #[.string (tx L)] W fun e w' => (∃ B g cap, e = .returned (.tuple #[.slice (some ⟨g, 0, none⟩) k cap, .int .i64 0, .int .i64 0]) ∧ CrOwn w' B (.slice (some ⟨g, 0, none⟩) k cap) k q) ∧ Below W.heap.size W w'))
    (P2 : Hid (∀ W, Below w.heap.size w W → Calls Tryd.prog 7 #[.string (tx L)] W fun e w' => (∃ B g cap, e = .returned (.tuple #[.slice (some ⟨g, 0, none⟩) k cap, .int .i64 0, .int .i64 0]) ∧ CrOwn w' B (.slice (some ⟨g, 0, none⟩) k cap) k q) ∧ Below W.heap.size W w'))
    (F1 : Hid (∀ W, Below w.heap.size w W → Calls Tryd.prog 9 #[.slice a n cap] W fun e w' => e = .returned (.string (tx [])) ∧ Below W.heap.size W w'))
    (F2 : Hid (∀ W, Below w.heap.size w W → Calls Tryd.prog 10 #[.slice a n cap] W fun e w' => e = .returned (.string (tx [])) ∧ Below W.heap.size W w')) :
    Calls Tryd.prog 3 #[.slice a n cap, .string (tx L)] w fun e w' => e = .returned (.bool true) ∧ Below w.heap.size w w' := by
  have hn' : (n : Int) ≤ 100 := by omega
  go_enter Tryd.func3, Tryd.ntmps3
  go_wp2_with fail
  refine (P1.out _ (by (repeat' (first | (with_reducible exact Below.refl _ _) | (with_reducible assumption) | (with_reducible refine Below.alloc ?_ ?_ _) | (with_reducible refine Below.drew ?_) | (with_reducible refine below_drewN ?_ _) | (with_reducible refine Below.setCell ?_ ?_ _) | (with_reducible refine below_after ?_ ?_ _) | (with_reducible refine below_set ?_) | (with_reducible refine After.size_le _ ?_) | (with_reducible refine size_alloc_le ?_) | (with_reducible refine size_set_le ?_) | (with_reducible refine size_drewN_le ?_) | go_size)))).mono ?_
  rintro e1 w1 ⟨⟨B1, g1, c1, rfl, h1⟩, hb1⟩
  obtain ⟨x1, rfl⟩ := after_of' hb1
  go_wp2_with fail
  refine (P2.out _ (by (repeat' (first | (with_reducible exact Below.refl _ _) | (with_reducible assumption) | (with_reducible refine Below.alloc ?_ ?_ _) | (with_reducible refine Below.drew ?_) | (with_reducible refine below_drewN ?_ _) | (with_reducible refine Below.setCell ?_ ?_ _) | (with_reducible refine below_after ?_ ?_ _) | (with_reducible refine below_set ?_) | (with_reducible refine After.size_le _ ?_) | (with_reducible refine size_alloc_le ?_) | (with_reducible refine size_set_le ?_) | (with_reducible refine size_drewN_le ?_) | go_size)))).mono ?_
  rintro e2 w2 ⟨⟨B2, g2, c2, rfl, h2⟩, hb2⟩
  have h1' := Lib.hid (crOwn_crs (crOwn_on h1 hb2))
  have h2' := Lib.hid (crOwn_crs h2)
  obtain ⟨x2, rfl⟩ := after_of' (x1.out.trans (hb2.mono x1.out.size))
  clear hb1 hb2 h1 h2
  have HSm := Lib.hid (same_crs h1'.out h2'.out k2)
  have HFm := Lib.hid (formatC_say h1'.out k2 (HS.out.on x2.out))
  rw [HA.out] at HFm
  clear h1' h2'
  go_wp2_with fail
  refine (HSm.out _ (by (repeat' (first | (with_reducible exact Nat.le_refl _) | (with_reducible exact Below.refl _ _) | (with_reducible assumption) | (with_reducible refine Below.alloc ?_ ?_ _) | (with_reducible refine Below.drew ?_) | (with_reducible refine below_drewN ?_ _) | (with_reducible refine Below.setCell ?_ ?_ _) | (with_reducible refine below_after ?_ ?_ _) | (with_reducible refine below_set ?_) | (with_reducible refine After.size_le _ ?_) | (with_reducible refine size_alloc_le ?_) | (with_reducible refine size_set_le ?_) | (with_reducible refine size_drewN_le ?_) | go_size)))).mono ?_
  rintro e3 w3 ⟨rfl, hb3⟩
  obtain ⟨x3, rfl⟩ := after_of' hb3
  clear hb3
  go_wp2_with fail
  refine (HFm.out _ (by (repeat' (first | (with_reducible exact Nat.le_refl _) | (with_reducible exact Below.refl _ _) | (with_reducible assumption) | (with_reducible refine Below.alloc ?_ ?_ _) | (with_reducible refine Below.drew ?_) | (with_reducible refine below_drewN ?_ _) | (with_reducible refine Below.setCell ?_ ?_ _) | (with_reducible refine below_after ?_ ?_ _) | (with_reducible refine below_set ?_) | (with_reducible refine After.size_le _ ?_) | (with_reducible refine size_alloc_le ?_) | (with_reducible refine size_set_le ?_) | (with_reducible refine size_drewN_le ?_) | go_size)))).mono ?_
  rintro e4 w4 ⟨rfl, hb4⟩
  have hx4 : Below w.heap.size w w4 := x2.out.trans ((x3.out.mono x2.out.size).trans (hb4.mono (Nat.le_trans x2.out.size x3.out.size)))
  obtain ⟨x4, rfl⟩ := after_of' hx4
  clear hb4 hx4 HSm HFm
  go_wp2_with fail
  refine (F1.out _ (by (repeat' (first | (with_reducible exact Below.refl _ _) | (with_reducible assumption) | (with_reducible refine Below.alloc ?_ ?_ _) | (with_reducible refine Below.drew ?_) | (with_reducible refine below_drewN ?_ _) | (with_reducible refine Below.setCell ?_ ?_ _) | (with_reducible refine below_after ?_ ?_ _) | (with_reducible refine below_set ?_) | (with_reducible refine After.size_le _ ?_) | (with_reducible refine size_alloc_le ?_) | (with_reducible refine size_set_le ?_) | (with_reducible refine size_drewN_le ?_) | go_size)))).mono ?_
  rintro e5 w5 ⟨rfl, hb5⟩
  obtain ⟨x5, rfl⟩ := after_of' (x4.out.trans (hb5.mono x4.out.size))
  clear hb5
  go_wp2_with fail
  refine (F2.out _ (by (repeat' (first | (with_reducible exact Below.refl _ _) | (with_reducible assumption) | (with_reducible refine Below.alloc ?_ ?_ _) | (with_reducible refine Below.drew ?_) | (with_reducible refine below_drewN ?_ _) | (with_reducible refine Below.setCell ?_ ?_ _) | (with_reducible refine below_after ?_ ?_ _) | (with_reducible refine below_set ?_) | (with_reducible refine After.size_le _ ?_) | (with_reducible refine size_alloc_le ?_) | (with_reducible refine size_set_le ?_) | (with_reducible refine size_drewN_le ?_) | go_size)))).mono ?_
  rintro e6 w6 ⟨rfl, hb6⟩
  obtain ⟨x6, rfl⟩ := after_of' (x5.out.trans (hb6.mono x5.out.size))
  clear hb6
  go_wp2_with fail
  refine (HTab.out _ (by (repeat' (first | (with_reducible exact Below.refl _ _) | (with_reducible assumption) | (with_reducible refine Below.alloc ?_ ?_ _) | (with_reducible refine Below.drew ?_) | (with_reducible refine below_drewN ?_ _) | (with_reducible refine Below.setCell ?_ ?_ _) | (with_reducible refine below_after ?_ ?_ _) | (with_reducible refine below_set ?_) | (with_reducible refine After.size_le _ ?_) | (with_reducible refine size_alloc_le ?_) | (with_reducible refine size_set_le ?_) | (with_reducible refine size_drewN_le ?_) | go_size)))).mono ?_
  rintro e7 w7 ⟨rfl, hb7⟩
  go_wp2
  go_ret
  exact ⟨rfl, x6.out.trans (hb7.mono x6.out.size)⟩
set_option maxRecDepth 100000 in
set_option maxHeartbeats 1000000 in
theorem stexts_no_bad (kk c : Int) (HTab : Hid (∀ W, Below w.heap.size w W → Calls Tryd.prog 5 #[] W fun e w' => e = .returned (.bool true) ∧ Below W.heap.size W w')) (hn : n ≤ 100) (hc : (c == 0) = false)
    (P1 : Hid (∀ W, Below w.heap.size w W → Calls Tryd.prog 6 #[.string (tx L)] W fun e w' => e = .returned (.tuple #[.slice none 0 0, .int .i64 kk, .int .i64 c]) ∧ Below W.heap.size W w'))
    (P2 : Hid (∀ W, Below w.heap.size w W → Calls Tryd.prog 7 #[.string (tx L)] W fun e w' => e = .returned (.tuple #[.slice none 0 0, .int .i64 kk, .int .i64 c]) ∧ Below W.heap.size W w'))
    (F1 : Hid (∀ W, Below w.heap.size w W → Calls Tryd.prog 9 #[.slice a n cap] W fun e w' => e = .returned (.string (tx [])) ∧ Below W.heap.size W w'))
    (F2 : Hid (∀ W, Below w.heap.size w W → Calls Tryd.prog 10 #[.slice a n cap] W fun e w' => e = .returned (.string (tx [])) ∧ Below W.heap.size W w')) :
    Calls Tryd.prog 3 #[.slice a n cap, .string (tx L)] w fun e w' => e = .returned (.bool true) ∧ Below w.heap.size w w' := by
  have hn' : (n : Int) ≤ 100 := by omega
  go_enter Tryd.func3, Tryd.ntmps3
  go_wp2_with fail
  refine (P1.out _ (by (repeat' (first | (with_reducible exact Below.refl _ _) | (with_reducible assumption) | (with_reducible refine Below.alloc ?_ ?_ _) | (with_reducible refine Below.drew ?_) | (with_reducible refine below_drewN ?_ _) | (with_reducible refine Below.setCell ?_ ?_ _) | (with_reducible refine below_after ?_ ?_ _) | (with_reducible refine below_set ?_) | (with_reducible refine After.size_le _ ?_) | (with_reducible refine size_alloc_le ?_) | (with_reducible refine size_set_le ?_) | (with_reducible refine size_drewN_le ?_) | go_size)))).mono ?_
  rintro e1 w1 ⟨rfl, hb1⟩
  obtain ⟨x1, rfl⟩ := after_of' hb1
  clear hb1
  go_wp2_with fail
  refine (P2.out _ (by (repeat' (first | (with_reducible exact Below.refl _ _) | (with_reducible assumption) | (with_reducible refine Below.alloc ?_ ?_ _) | (with_reducible refine Below.drew ?_) | (with_reducible refine below_drewN ?_ _) | (with_reducible refine Below.setCell ?_ ?_ _) | (with_reducible refine below_after ?_ ?_ _) | (with_reducible refine below_set ?_) | (with_reducible refine After.size_le _ ?_) | (with_reducible refine size_alloc_le ?_) | (with_reducible refine size_set_le ?_) | (with_reducible refine size_drewN_le ?_) | go_size)))).mono ?_
  rintro e2 w2 ⟨rfl, hb2⟩
  obtain ⟨x2, rfl⟩ := after_of' (x1.out.trans (hb2.mono x1.out.size))
  clear hb2
  go_wp2_with fail
  refine (same_nil none none 0 0 _).mono ?_
  rintro e3 w3 ⟨rfl, hb3⟩
  obtain ⟨x4, rfl⟩ := after_of' (x2.out.trans (hb3.mono x2.out.size))
  clear hb3
  go_wp2_with fail
  refine (F1.out _ (by (repeat' (first | (with_reducible exact Below.refl _ _) | (with_reducible assumption) | (with_reducible refine Below.alloc ?_ ?_ _) | (with_reducible refine Below.drew ?_) | (with_reducible refine below_drewN ?_ _) | (with_reducible refine Below.setCell ?_ ?_ _) | (with_reducible refine below_after ?_ ?_ _) | (with_reducible refine below_set ?_) | (with_reducible refine After.size_le _ ?_) | (with_reducible refine size_alloc_le ?_) | (with_reducible refine size_set_le ?_) | (with_reducible refine size_drewN_le ?_) | go_size)))).mono ?_
  rintro e5 w5 ⟨rfl, hb5⟩
  obtain ⟨x5, rfl⟩ := after_of' (x4.out.trans (hb5.mono x4.out.size))
  clear hb5
  go_wp2_with fail
  refine (F2.out _ (by (repeat' (first | (with_reducible exact Below.refl _ _) | (with_reducible assumption) | (with_reducible refine Below.alloc ?_ ?_ _) | (with_reducible refine Below.drew ?_) | (with_reducible refine below_drewN ?_ _) | (with_reducible refine Below.setCell ?_ ?_ _) | (with_reducible refine below_after ?_ ?_ _) | (with_reducible refine below_set ?_) | (with_reducible refine After.size_le _ ?_) | (with_reducible refine size_alloc_le ?_) | (with_reducible refine size_set_le ?_) | (with_reducible refine size_drewN_le ?_) | go_size)))).mono ?_
  rintro e6 w6 ⟨rfl, hb6⟩
  obtain ⟨x6, rfl⟩ := after_of' (x5.out.trans (hb6.mono x5.out.size))
  clear hb6
  go_wp2_with fail
  refine (HTab.out _ (by (repeat' (first | (with_reducible exact Below.refl _ _) | (with_reducible assumption) | (with_reducible refine Below.alloc ?_ ?_ _) | (with_reducible refine Below.drew ?_) | (with_reducible refine below_drewN ?_ _) | (with_reducible refine Below.setCell ?_ ?_ _) | (with_reducible refine below_after ?_ ?_ _) | (with_reducible refine below_set ?_) | (with_reducible refine After.size_le _ ?_) | (with_reducible refine size_alloc_le ?_) | (with_reducible refine size_set_le ?_) | (with_reducible refine size_drewN_le ?_) | go_size)))).mono ?_
  rintro e7 w7 ⟨rfl, hb7⟩
  go_wp2
  go_ret
  exact ⟨rfl, x6.out.trans (hb7.mono x6.out.size)⟩
set_option maxRecDepth 100000 in
set_option maxHeartbeats 1000000 in
theorem stexts_read_good (k : Nat) (q : Nat → Nat → Int) (HTab : Hid (∀ W, Below w.heap.size w W → Calls Tryd.prog 5 #[] W fun e w' => e = .returned (.bool true) ∧ Below W.heap.size W w')) (hn : n ≤ 100) (_ : 1 ≤ k) (k2 : k ≤ 100) (l1 : 1 ≤ n) (l2 : n ≤ 100) (h0 : (A == []) = false) (HS : Hid (Std w)) (HA : Hid (formS k q = L)) (HM : Hid (∀ W, Below w.heap.size w W → Crs W W.heap.size (.slice a n cap) n f))
    (P1 : Hid (∀ W, Below w.heap.size w W → Calls Tryd.prog 6 #[.string (tx L)] W fun e w' => (∃ B g cap, e = .returned (.tuple #[.slice (some ⟨g, 0, none⟩) k cap, .int .i64 0, .int .i64 0]) ∧ CrOwn w' B (.slice (some ⟨g, 0, none⟩) k cap) k q) ∧ Below W.heap.size W w'))
    (P2 : Hid (∀ W, Below w.heap.size w W → Calls Tryd.prog 7 #[.string (tx L)] W fun e w' => (∃ B g cap, e = .returned (.tuple #[.slice (some ⟨g, 0, none⟩) k cap, .int .i64 0, .int .i64 0]) ∧ CrOwn w' B (.slice (some ⟨g, 0, none⟩) k cap) k q) ∧ Below W.heap.size W w'))
    (P3 : Hid (∀ W, Below w.heap.size w W → Calls Tryd.prog 6 #[.string (tx A)] W fun e w' => (∃ B g cap, e = .returned (.tuple #[.slice (some ⟨g, 0, none⟩) n cap, .int .i64 0, .int .i64 0]) ∧ CrOwn w' B (.slice (some ⟨g, 0, none⟩) n cap) n f) ∧ Below W.heap.size W w'))
    (F1 : Hid (∀ W, Below w.heap.size w W → Calls Tryd.prog 9 #[.slice a n cap] W fun e w' => e = .returned (.string (tx A)) ∧ Below W.heap.size W w'))
    (F2 : Hid (∀ W, Below w.heap.size w W → Calls Tryd.prog 10 #[.slice a n cap] W fun e w' => e = .returned (.string (tx A)) ∧ Below W.heap.size W w')) :
    Calls Tryd.prog 3 #[.slice a n cap, .string (tx L)] w fun e w' => e = .returned (.bool true) ∧ Below w.heap.size w w' := by
  have hn' : (n : Int) ≤ 100 := by omega
  go_enter Tryd.func3, Tryd.ntmps3
  go_wp2_with fail
  refine (P1.out _ (by (repeat' (first | (with_reducible exact Below.refl _ _) | (with_reducible assumption) | (with_reducible refine Below.alloc ?_ ?_ _) | (with_reducible refine Below.drew ?_) | (with_reducible refine below_drewN ?_ _) | (with_reducible refine Below.setCell ?_ ?_ _) | (with_reducible refine below_after ?_ ?_ _) | (with_reducible refine below_set ?_) | (with_reducible refine After.size_le _ ?_) | (with_reducible refine size_alloc_le ?_) | (with_reducible refine size_set_le ?_) | (with_reducible refine size_drewN_le ?_) | go_size)))).mono ?_
  rintro e1 w1 ⟨⟨B1, g1, c1, rfl, h1⟩, hb1⟩
  obtain ⟨x1, rfl⟩ := after_of' hb1
  go_wp2_with fail
  refine (P2.out _ (by (repeat' (first | (with_reducible exact Below.refl _ _) | (with_reducible assumption) | (with_reducible refine Below.alloc ?_ ?_ _) | (with_reducible refine Below.drew ?_) | (with_reducible refine below_drewN ?_ _) | (with_reducible refine Below.setCell ?_ ?_ _) | (with_reducible refine below_after ?_ ?_ _) | (with_reducible refine below_set ?_) | (with_reducible refine After.size_le _ ?_) | (with_reducible refine size_alloc_le ?_) | (with_reducible refine size_set_le ?_) | (with_reducible refine size_drewN_le ?_) | go_size)))).mono ?_
  rintro e2 w2 ⟨⟨B2, g2, c2, rfl, h2⟩, hb2⟩
  have h1' := Lib.hid (crOwn_crs (crOwn_on h1 hb2))
  have h2' := Lib.hid (crOwn_crs h2)
  obtain ⟨x2, rfl⟩ := after_of' (x1.out.trans (hb2.mono x1.out.size))
  clear hb1 hb2 h1 h2
  have HSm := Lib.hid (same_crs h1'.out h2'.out k2)
  have HFm := Lib.hid (formatC_say h1'.out k2 (HS.out.on x2.out))
  rw [HA.out] at HFm
  clear h1' h2'
  go_wp2_with fail
  refine (HSm.out _ (by (repeat' (first | (with_reducible exact Nat.le_refl _) | (with_reducible exact Below.refl _ _) | (with_reducible assumption) | (with_reducible refine Below.alloc ?_ ?_ _) | (with_reducible refine Below.drew ?_) | (with_reducible refine below_drewN ?_ _) | (with_reducible refine Below.setCell ?_ ?_ _) | (with_reducible refine below_after ?_ ?_ _) | (with_reducible refine below_set ?_) | (with_reducible refine After.size_le _ ?_) | (with_reducible refine size_alloc_le ?_) | (with_reducible refine size_set_le ?_) | (with_reducible refine size_drewN_le ?_) | go_size)))).mono ?_
  rintro e3 w3 ⟨rfl, hb3⟩
  obtain ⟨x3, rfl⟩ := after_of' hb3
  clear hb3
  go_wp2_with fail
  refine (HFm.out _ (by (repeat' (first | (with_reducible exact Nat.le_refl _) | (with_reducible exact Below.refl _ _) | (with_reducible assumption) | (with_reducible refine Below.alloc ?_ ?_ _) | (with_reducible refine Below.drew ?_) | (with_reducible refine below_drewN ?_ _) | (with_reducible refine Below.setCell ?_ ?_ _) | (with_reducible refine below_after ?_ ?_ _) | (with_reducible refine below_set ?_) | (with_reducible refine After.size_le _ ?_) | (with_reducible refine size_alloc_le ?_) | (with_reducible refine size_set_le ?_) | (with_reducible refine size_drewN_le ?_) | go_size)))).mono ?_
  rintro e4 w4 ⟨rfl, hb4⟩
  have hx4 : Below w.heap.size w w4 := x2.out.trans ((x3.out.mono x2.out.size).trans (hb4.mono (Nat.le_trans x2.out.size x3.out.size)))
  obtain ⟨x4, rfl⟩ := after_of' hx4
  clear hb4 hx4 HSm HFm
  go_wp2_with fail
  refine (F1.out _ (by (repeat' (first | (with_reducible exact Below.refl _ _) | (with_reducible assumption) | (with_reducible refine Below.alloc ?_ ?_ _) | (with_reducible refine Below.drew ?_) | (with_reducible refine below_drewN ?_ _) | (with_reducible refine Below.setCell ?_ ?_ _) | (with_reducible refine below_after ?_ ?_ _) | (with_reducible refine below_set ?_) | (with_reducible refine After.size_le _ ?_) | (with_reducible refine size_alloc_le ?_) | (with_reducible refine size_set_le ?_) | (with_reducible refine size_drewN_le ?_) | go_size)))).mono ?_
  rintro e5 w5 ⟨rfl, hb5⟩
  obtain ⟨x5, rfl⟩ := after_of' (x4.out.trans (hb5.mono x4.out.size))
  clear hb5
  go_wp2_with fail
  refine (F2.out _ (by (repeat' (first | (with_reducible exact Below.refl _ _) | (with_reducible assumption) | (with_reducible refine Below.alloc ?_ ?_ _) | (with_reducible refine Below.drew ?_) | (with_reducible refine below_drewN ?_ _) | (with_reducible refine Below.setCell ?_ ?_ _) | (with_reducible refine below_after ?_ ?_ _) | (with_reducible refine below_set ?_) | (with_reducible refine After.size_le _ ?_) | (with_reducible refine size_alloc_le ?_) | (with_reducible refine size_set_le ?_) | (with_reducible refine size_drewN_le ?_) | go_size)))).mono ?_
  rintro e6 w6 ⟨rfl, hb6⟩
  obtain ⟨x6, rfl⟩ := after_of' (x5.out.trans (hb6.mono x5.out.size))
  clear hb6
  go_wp2_with fail
  refine (P3.out _ (by (repeat' (first | (with_reducible exact Below.refl _ _) | (with_reducible assumption) | (with_reducible refine Below.alloc ?_ ?_ _) | (with_reducible refine Below.drew ?_) | (with_reducible refine below_drewN ?_ _) | (with_reducible refine Below.setCell ?_ ?_ _) | (with_reducible refine below_after ?_ ?_ _) | (with_reducible refine below_set ?_) | (with_reducible refine After.size_le _ ?_) | (with_reducible refine size_alloc_le ?_) | (with_reducible refine size_set_le ?_) | (with_reducible refine size_drewN_le ?_) | go_size)))).mono ?_
  rintro e7 w7 ⟨⟨B7, g7, c7, rfl, h7⟩, hb7⟩
  have h7' := Lib.hid (crOwn_crs h7)
  obtain ⟨x7, rfl⟩ := after_of' (x6.out.trans (hb7.mono x6.out.size))
  clear hb7 h7
  have HSl := Lib.hid (same_crs h7'.out (HM.out _ x7.out) l2)
  go_wp2_with fail
  refine (HSl.out _ (by (repeat' (first | (with_reducible exact Nat.le_refl _) | (with_reducible exact Below.refl _ _) | (with_reducible assumption) | (with_reducible refine Below.alloc ?_ ?_ _) | (with_reducible refine Below.drew ?_) | (with_reducible refine below_drewN ?_ _) | (with_reducible refine Below.setCell ?_ ?_ _) | (with_reducible refine below_after ?_ ?_ _) | (with_reducible refine below_set ?_) | (with_reducible refine After.size_le _ ?_) | (with_reducible refine size_alloc_le ?_) | (with_reducible refine size_set_le ?_) | (with_reducible refine size_drewN_le ?_) | go_size)))).mono ?_
  rintro e8 w8 ⟨rfl, hb8⟩
  obtain ⟨x8, rfl⟩ := after_of' (x7.out.trans (hb8.mono x7.out.size))
  clear hb8 h7' HSl
  go_wp2_with fail
  refine (HTab.out _ (by (repeat' (first | (with_reducible exact Below.refl _ _) | (with_reducible assumption) | (with_reducible refine Below.alloc ?_ ?_ _) | (with_reducible refine Below.drew ?_) | (with_reducible refine below_drewN ?_ _) | (with_reducible refine Below.setCell ?_ ?_ _) | (with_reducible refine below_after ?_ ?_ _) | (with_reducible refine below_set ?_) | (with_reducible refine After.size_le _ ?_) | (with_reducible refine size_alloc_le ?_) | (with_reducible refine size_set_le ?_) | (with_reducible refine size_drewN_le ?_) | go_size)))).mono ?_
  rintro e9 w9 ⟨rfl, hb9⟩
  go_wp2
  go_ret
  exact ⟨rfl, x8.out.trans (hb9.mono x8.out.size)⟩
set_option maxRecDepth 100000 in
set_option maxHeartbeats 1000000 in
theorem stexts_no_good (kk c : Int) (HTab : Hid (∀ W, Below w.heap.size w W → Calls Tryd.prog 5 #[] W fun e w' => e = .returned (.bool true) ∧ Below W.heap.size W w')) (hn : n ≤ 100) (hc : (c == 0) = false) (l1 : 1 ≤ n) (l2 : n ≤ 100) (h0 : (A == []) = false) (HM : Hid (∀ W, Below w.heap.size w W → Crs W W.heap.size (.slice a n cap) n f))
    (P1 : Hid (∀ W, Below w.heap.size w W → Calls Tryd.prog 6 #[.string (tx L)] W fun e w' => e = .returned (.tuple #[.slice none 0 0, .int .i64 kk, .int .i64 c]) ∧ Below W.heap.size W w'))
    (P2 : Hid (∀ W, Below w.heap.size w W → Calls Tryd.prog 7 #[.string (tx L)] W fun e w' => e = .returned (.tuple #[.slice none 0 0, .int .i64 kk, .int .i64 c]) ∧ Below W.heap.size W w'))
    (P3 : Hid (∀ W, Below w.heap.size w W → Calls Tryd.prog 6 #[.string (tx A)] W fun e w' => (∃ B g cap, e = .returned (.tuple #[.slice (some ⟨g, 0, none⟩) n cap, .int .i64 0, .int .i64 0]) ∧ CrOwn w' B (.slice (some ⟨g, 0, none⟩) n cap) n f) ∧ Below W.heap.size W w'))
    (F1 : Hid (∀ W, Below w.heap.size w W → Calls Tryd.prog 9 #[.slice a n cap] W fun e w' => e = .returned (.string (tx A)) ∧ Below W.heap.size W w'))
    (F2 : Hid (∀ W, Below w.heap.size w W → Calls Tryd.prog 10 #[.slice a n cap] W fun e w' => e = .returned (.string (tx A)) ∧ Below W.heap.size W w')) :
    Calls Tryd.prog 3 #[.slice a n cap, .string (tx L)] w fun e w' => e = .returned (.bool true) ∧ Below w.heap.size w w' := by
  have hn' : (n : Int) ≤ 100 := by omega
  go_enter Tryd.func3, Tryd.ntmps3
  go_wp2_with fail
  refine (P1.out _ (by (repeat' (first | (with_reducible exact Below.refl _ _) | (with_reducible assumption) | (with_reducible refine Below.alloc ?_ ?_ _) | (with_reducible refine Below.drew ?_) | (with_reducible refine below_drewN ?_ _) | (with_reducible refine Below.setCell ?_ ?_ _) | (with_reducible refine below_after ?_ ?_ _) | (with_reducible refine below_set ?_) | (with_reducible refine After.size_le _ ?_) | (with_reducible refine size_alloc_le ?_) | (with_reducible refine size_set_le ?_) | (with_reducible refine size_drewN_le ?_) | go_size)))).mono ?_
  rintro e1 w1 ⟨rfl, hb1⟩
  obtain ⟨x1, rfl⟩ := after_of' hb1
  clear hb1
  go_wp2_with fail
  refine (P2.out _ (by (repeat' (first | (with_reducible exact Below.refl _ _) | (with_reducible assumption) | (with_reducible refine Below.alloc ?_ ?_ _) | (with_reducible refine Below.drew ?_) | (with_reducible refine below_drewN ?_ _) | (with_reducible refine Below.setCell ?_ ?_ _) | (with_reducible refine below_after ?_ ?_ _) | (with_reducible refine below_set ?_) | (with_reducible refine After.size_le _ ?_) | (with_reducible refine size_alloc_le ?_) | (with_reducible refine size_set_le ?_) | (with_reducible refine size_drewN_le ?_) | go_size)))).mono ?_
  rintro e2 w2 ⟨rfl, hb2⟩
  obtain ⟨x2, rfl⟩ := after_of' (x1.out.trans (hb2.mono x1.out.size))
  clear hb2
  go_wp2_with fail
  refine (same_nil none none 0 0 _).mono ?_
  rintro e3 w3 ⟨rfl, hb3⟩
  obtain ⟨x4, rfl⟩ := after_of' (x2.out.trans (hb3.mono x2.out.size))
  clear hb3
  go_wp2_with fail
  refine (F1.out _ (by (repeat' (first | (with_reducible exact Below.refl _ _) | (with_reducible assumption) | (with_reducible refine Below.alloc ?_ ?_ _) | (with_reducible refine Below.drew ?_) | (with_reducible refine below_drewN ?_ _) | (with_reducible refine Below.setCell ?_ ?_ _) | (with_reducible refine below_after ?_ ?_ _) | (with_reducible refine below_set ?_) | (with_reducible refine After.size_le _ ?_) | (with_reducible refine size_alloc_le ?_) | (with_reducible refine size_set_le ?_) | (with_reducible refine size_drewN_le ?_) | go_size)))).mono ?_
  rintro e5 w5 ⟨rfl, hb5⟩
  obtain ⟨x5, rfl⟩ := after_of' (x4.out.trans (hb5.mono x4.out.size))
  clear hb5
  go_wp2_with fail
  refine (F2.out _ (by (repeat' (first | (with_reducible exact Below.refl _ _) | (with_reducible assumption) | (with_reducible refine Below.alloc ?_ ?_ _) | (with_reducible refine Below.drew ?_) | (with_reducible refine below_drewN ?_ _) | (with_reducible refine Below.setCell ?_ ?_ _) | (with_reducible refine below_after ?_ ?_ _) | (with_reducible refine below_set ?_) | (with_reducible refine After.size_le _ ?_) | (with_reducible refine size_alloc_le ?_) | (with_reducible refine size_set_le ?_) | (with_reducible refine size_drewN_le ?_) | go_size)))).mono ?_
  rintro e6 w6 ⟨rfl, hb6⟩
  obtain ⟨x6, rfl⟩ := after_of' (x5.out.trans (hb6.mono x5.out.size))
  clear hb6
  go_wp2_with fail
  refine (P3.out _ (by (repeat' (first | (with_reducible exact Below.refl _ _) | (with_reducible assumption) | (with_reducible refine Below.alloc ?_ ?_ _) | (with_reducible refine Below.drew ?_) | (with_reducible refine below_drewN ?_ _) | (with_reducible refine Below.setCell ?_ ?_ _) | (with_reducible refine below_after ?_ ?_ _) | (with_reducible refine below_set ?_) | (with_reducible refine After.size_le _ ?_) | (with_reducible refine size_alloc_le ?_) | (with_reducible refine size_set_le ?_) | (with_reducible refine size_drewN_le ?_) | go_size)))).mono ?_
  rintro e7 w7 ⟨⟨B7, g7, c7, rfl, h7⟩, hb7⟩
  have h7' := Lib.hid (crOwn_crs h7)
  obtain ⟨x7, rfl⟩ := after_of' (x6.out.trans (hb7.mono x6.out.size))
  clear hb7 h7
  have HSl := Lib.hid (same_crs h7'.out (HM.out _ x7.out) l2)
  go_wp2_with fail
  refine (HSl.out _ (by (repeat' (first | (with_reducible exact Nat.le_refl _) | (with_reducible exact Below.refl _ _) | (with_reducible assumption) | (with_reducible refine Below.alloc ?_ ?_ _) | (with_reducible refine Below.drew ?_) | (with_reducible refine below_drewN ?_ _) | (with_reducible refine Below.setCell ?_ ?_ _) | (with_reducible refine below_after ?_ ?_ _) | (with_reducible refine below_set ?_) | (with_reducible refine After.size_le _ ?_) | (with_reducible refine size_alloc_le ?_) | (with_reducible refine size_set_le ?_) | (with_reducible refine size_drewN_le ?_) | go_size)))).mono ?_
  rintro e8 w8 ⟨rfl, hb8⟩
  obtain ⟨x8, rfl⟩ := after_of' (x7.out.trans (hb8.mono x7.out.size))
  clear hb8 h7' HSl
  go_wp2_with fail
  refine (HTab.out _ (by (repeat' (first | (with_reducible exact Below.refl _ _) | (with_reducible assumption) | (with_reducible refine Below.alloc ?_ ?_ _) | (with_reducible refine Below.drew ?_) | (with_reducible refine below_drewN ?_ _) | (with_reducible refine Below.setCell ?_ ?_ _) | (with_reducible refine below_after ?_ ?_ _) | (with_reducible refine below_set ?_) | (with_reducible refine After.size_le _ ?_) | (with_reducible refine size_alloc_le ?_) | (with_reducible refine size_set_le ?_) | (with_reducible refine size_drewN_le ?_) | go_size)))).mono ?_
  rintro e9 w9 ⟨rfl, hb9⟩
  go_wp2
  go_ret
  exact ⟨rfl, x8.out.trans (hb9.mono x8.out.size)⟩
end

theorem stackTexts_any (v0 : Value) (n : Nat) (f : Nat → Nat → Int) (s : ByteArray) (w : World) (hM : Crs w w.heap.size v0 n f) (hS : Std w) (hR : RdSay) (hT : Tab w) :
    Calls Tryd.prog 3 #[v0, .string s] w fun e w' => e = .returned (.bool true) ∧ Below w.heap.size w w' := by
  obtain ⟨a, cap, rfl, -⟩ := id hM
  have HTab := Lib.hid (fun W (hW : Below w.heap.size w W) => awake_any W (hT.on hW))
  by_cases hn : 100 < n
  · exact stackTexts_long a n cap s w hn HTab
  obtain ⟨L, rfl⟩ : ∃ L, s = tx L := ⟨s.data.toList, by cases s; rfl⟩
  have hn' : n ≤ 100 := by omega
  have HM : Hid (∀ W, Below w.heap.size w W → Crs W W.heap.size (.slice a n cap) n f) := Lib.hid fun W hW => hM.on hW
  have F1 := formatC_say hM hn' hS
  have F2 := rformatC_say hM hn'
  by_cases hG : GoodC n f
  · have hA : formS n f = formC n f := if_pos hG
    have hl := formC_len fun i hi => OkR.in6 (hG.2.2 i hi)
    have h1 := hG.1
    have h0 : (formC n f == []) = false := by
      cases h : formC n f with
      | nil => rw [h] at hl; simp at hl; omega
      | cons c r => rfl
    have P3 := parseC_whole hR (w := w) (L := formC n f) (by omega) hS (formC_whole hG)
    rw [hA] at F1 F2
    rcases textC_or hR L hS with ⟨hL, k, q, hw⟩ | ⟨k, c, p1, p2, hc⟩
    · have hq := wholeC_good hw
      exact stexts_read_good a n cap f L _ w k q HTab hn' hq.1 (by have := hq.2.1; omega) h1 hn' h0 (Lib.hid hS) (Lib.hid ((if_pos hq).trans (wholeC_form hw).symm)) HM (Lib.hid (parseC_whole hR hL hS hw)) (Lib.hid (rparseC_whole hL hw)) (Lib.hid P3) (Lib.hid F1) (Lib.hid F2)
    · exact stexts_no_good a n cap f L _ w k c HTab hn' hc h1 hn' h0 HM (Lib.hid p1) (Lib.hid p2) (Lib.hid P3) (Lib.hid F1) (Lib.hid F2)
  · have hA : formS n f = [] := if_neg hG
    rw [hA] at F1 F2
    rcases textC_or hR L hS with ⟨hL, k, q, hw⟩ | ⟨k, c, p1, p2, hc⟩
    · have hq := wholeC_good hw
      exact stexts_read_bad a n cap L w k q HTab hn' hq.1 (by have := hq.2.1; omega) (Lib.hid hS) (Lib.hid ((if_pos hq).trans (wholeC_form hw).symm)) (Lib.hid (parseC_whole hR hL hS hw)) (Lib.hid (rparseC_whole hL hw)) (Lib.hid F1) (Lib.hid F2)
    · exact stexts_no_bad a n cap L w k c HTab hn' hc (Lib.hid p1) (Lib.hid p2) (Lib.hid F1) (Lib.hid F2)
end Go.Proofs.YtcaelmaoldmgpaaDoor
