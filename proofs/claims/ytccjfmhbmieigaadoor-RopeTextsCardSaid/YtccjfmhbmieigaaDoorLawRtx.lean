/- RopeTexts: the law's walk. -/
import Derived.Test.YtccjfmhbmieigaaDoorUsay
namespace Go.Proofs.YtccjfmhbmieigaaDoor
open Go.RowKit Ro
attribute [local go_sem] After.cell After.frozen After.lt After.le After.ne After.ne' After.set_eq After.size_set After.lt_add tx_size tx_toList


set_option maxRecDepth 100000 in
set_option maxHeartbeats 1000000 in
theorem ropeTexts_long (a : Option Addr) (n cap : Nat) (s : ByteArray) (w : World) (hn : 700 < n) (HTab : Hid (∀ W, Below w.heap.size w W → Calls Tryd.prog 11 #[] W fun e w' => e = .returned (.bool true) ∧ Below W.heap.size W w')) :
    Calls Tryd.prog 4 #[.slice a n cap, .string s] w fun e w' => e = .returned (.bool true) ∧ Below w.heap.size w w' := by
  have hn' : (700 : Int) < (n : Int) := by omega
  go_enter Tryd.func4, Tryd.ntmps4
  go_wp2_with fail
  refine (HTab.out _ (by (repeat' (first | (with_reducible exact Below.refl _ _) | (with_reducible assumption) | (with_reducible refine Below.alloc ?_ ?_ _) | (with_reducible refine Below.drew ?_) | (with_reducible refine below_drewN ?_ _) | (with_reducible refine Below.setCell ?_ ?_ _) | (with_reducible refine below_after ?_ ?_ _) | (with_reducible refine below_set ?_) | (with_reducible refine After.size_le _ ?_) | (with_reducible refine size_alloc_le ?_) | (with_reducible refine size_set_le ?_) | (with_reducible refine size_drewN_le ?_) | go_size)))).mono ?_
  rintro e7 w7 ⟨rfl, hb7⟩
  go_wp2
  go_ret
  exact ⟨rfl, hb7⟩

section
variable (a : Option Addr) (n cap : Nat) (L A : List UInt8) (w : World) (ps qs : List (Int × Int)) (kk c : Int)
set_option maxRecDepth 100000 in
set_option maxHeartbeats 1000000 in
theorem utexts_read_bad (HTab : Hid (∀ W, Below w.heap.size w W → Calls Tryd.prog 11 #[] W fun e w' => e = .returned (.bool true) ∧ Below W.heap.size W w')) (hn : n ≤ 700) (P1 : Hid (∀ W, Below w.heap.size w W → Calls Tryd.prog 12 #[.string (tx L)] W fun e w' => ReadsU w' qs e ∧ Below W.heap.size W w'))
    (P2 : Hid (∀ W, Below w.heap.size w W → Calls Tryd.prog 13 #[.string (tx L)] W fun e w' => ReadsU w' qs e ∧ Below W.heap.size W w'))
    (k2 : qs.length ≤ 1000) (HS : Hid (Std w)) (HA : Hid (formUS qs = L))
    (F1 : Hid (∀ W, Below w.heap.size w W → Calls Tryd.prog 15 #[.slice a n cap] W fun e w' => e = .returned (.string (tx A)) ∧ Below W.heap.size W w'))
    (F2 : Hid (∀ W, Below w.heap.size w W → Calls Tryd.prog 16 #[.slice a n cap] W fun e w' => e = .returned (.string (tx A)) ∧ Below W.heap.size W w'))
    (F3 : Hid (∀ W, Below w.heap.size w W → Calls Tryd.prog 17 #[.slice a n cap] W fun e w' => e = .returned (.bool false) ∧ Below W.heap.size W w')) :
    Calls Tryd.prog 4 #[.slice a n cap, .string (tx L)] w fun e w' => e = .returned (.bool true) ∧ Below w.heap.size w w' := by
  have hn' : (n : Int) ≤ 700 := by omega
  go_enter Tryd.func4, Tryd.ntmps4
  go_wp2_with fail
  refine (P1.out _ (by (repeat' (first | (with_reducible exact Below.refl _ _) | (with_reducible assumption) | (with_reducible refine Below.alloc ?_ ?_ _) | (with_reducible refine Below.drew ?_) | (with_reducible refine below_drewN ?_ _) | (with_reducible refine Below.setCell ?_ ?_ _) | (with_reducible refine below_after ?_ ?_ _) | (with_reducible refine below_set ?_) | (with_reducible refine After.size_le _ ?_) | (with_reducible refine size_alloc_le ?_) | (with_reducible refine size_set_le ?_) | (with_reducible refine size_drewN_le ?_) | go_size)))).mono ?_
  rintro e1 w1 ⟨⟨a1, c1, rfl, h1⟩, hb1⟩
  obtain ⟨x1, rfl⟩ := after_of' hb1
  go_wp2_with fail
  refine (P2.out _ (by (repeat' (first | (with_reducible exact Below.refl _ _) | (with_reducible assumption) | (with_reducible refine Below.alloc ?_ ?_ _) | (with_reducible refine Below.drew ?_) | (with_reducible refine below_drewN ?_ _) | (with_reducible refine Below.setCell ?_ ?_ _) | (with_reducible refine below_after ?_ ?_ _) | (with_reducible refine below_set ?_) | (with_reducible refine After.size_le _ ?_) | (with_reducible refine size_alloc_le ?_) | (with_reducible refine size_set_le ?_) | (with_reducible refine size_drewN_le ?_) | go_size)))).mono ?_
  rintro e2 w2 ⟨⟨a2, c2, rfl, h2⟩, hb2⟩
  have h1' := Lib.hid (prc_on h1 hb2)
  have h2' := Lib.hid h2
  obtain ⟨x2, rfl⟩ := after_of' (x1.out.trans (hb2.mono x1.out.size))
  clear hb1 hb2 h1 h2
  have HSm := Lib.hid (same_prc h1'.out h2'.out k2)
  have HFm := Lib.hid (formatU_say h1'.out k2 (HS.out.on x2.out))
  rw [HA.out] at HFm
  clear h1' h2'
  go_wp2_with fail
  refine (HSm.out _ (by (repeat' (first | (with_reducible exact Nat.le_refl _) | (with_reducible exact Below.refl _ _) | (with_reducible assumption) | (with_reducible refine Below.alloc ?_ ?_ _) | (with_reducible refine Below.drew ?_) | (with_reducible refine below_drewN ?_ _) | (with_reducible refine Below.setCell ?_ ?_ _) | (with_reducible refine below_after ?_ ?_ _) | (with_reducible refine below_set ?_) | (with_reducible refine After.size_le _ ?_) | (with_reducible refine size_alloc_le ?_) | (with_reducible refine size_set_le ?_) | (with_reducible refine size_drewN_le ?_) | go_size)))).mono ?_
  rintro e3 w3 ⟨rfl, hb3⟩
  obtain ⟨x3, rfl⟩ := after_of' hb3
  clear hb3
  go_wp2_with fail
  refine (HFm.out _ (by (repeat' (first | (with_reducible exact Nat.le_refl _) | (with_reducible exact Below.refl _ _) | (with_reducible assumption) | (with_reducible refine Below.alloc ?_ ?_ _) | (with_reducible refine Below.drew ?_) | (with_reducible refine below_drewN ?_ _) | (with_reducible refine Below.setCell ?_ ?_ _) | (with_reducible refine below_after ?_ ?_ _) | (with_reducible refine below_set ?_) | (with_reducible refine After.size_le _ ?_) | (with_reducible refine size_alloc_le ?_) | (with_reducible refine size_set_le ?_) | (with_reducible refine size_drewN_le ?_) | go_size)))).mono ?_
  rintro e4 w4 ⟨rfl, hb4⟩
  have hx4 : Below w.heap.size w w4 := x2.out.trans ((x3.out.mono x2.out.size).trans (hb4.mono (Nat.le_trans x2.out.size x3.out.size)))
  obtain ⟨x4, rfl⟩ := after_of' hx4
  clear hb4 hx4 HSm HFm
  go_wp2_with fail
  refine (F1.out _ (by (repeat' (first | (with_reducible exact Below.refl _ _) | (with_reducible assumption) | (with_reducible refine Below.alloc ?_ ?_ _) | (with_reducible refine Below.drew ?_) | (with_reducible refine below_drewN ?_ _) | (with_reducible refine Below.setCell ?_ ?_ _) | (with_reducible refine below_after ?_ ?_ _) | (with_reducible refine below_set ?_) | (with_reducible refine After.size_le _ ?_) | (with_reducible refine size_alloc_le ?_) | (with_reducible refine size_set_le ?_) | (with_reducible refine size_drewN_le ?_) | go_size)))).mono ?_
  rintro e5 w5 ⟨rfl, hb5⟩
  obtain ⟨x5, rfl⟩ := after_of' (x4.out.trans (hb5.mono x4.out.size))
  clear hb5
  go_wp2_with fail
  refine (F2.out _ (by (repeat' (first | (with_reducible exact Below.refl _ _) | (with_reducible assumption) | (with_reducible refine Below.alloc ?_ ?_ _) | (with_reducible refine Below.drew ?_) | (with_reducible refine below_drewN ?_ _) | (with_reducible refine Below.setCell ?_ ?_ _) | (with_reducible refine below_after ?_ ?_ _) | (with_reducible refine below_set ?_) | (with_reducible refine After.size_le _ ?_) | (with_reducible refine size_alloc_le ?_) | (with_reducible refine size_set_le ?_) | (with_reducible refine size_drewN_le ?_) | go_size)))).mono ?_
  rintro e6 w6 ⟨rfl, hb6⟩
  obtain ⟨y6, rfl⟩ := after_of' (x5.out.trans (hb6.mono x5.out.size))
  clear hb6
  go_wp2_with fail
  refine (F3.out _ (by (repeat' (first | (with_reducible exact Below.refl _ _) | (with_reducible assumption) | (with_reducible refine Below.alloc ?_ ?_ _) | (with_reducible refine Below.drew ?_) | (with_reducible refine below_drewN ?_ _) | (with_reducible refine Below.setCell ?_ ?_ _) | (with_reducible refine below_after ?_ ?_ _) | (with_reducible refine below_set ?_) | (with_reducible refine After.size_le _ ?_) | (with_reducible refine size_alloc_le ?_) | (with_reducible refine size_set_le ?_) | (with_reducible refine size_drewN_le ?_) | go_size)))).mono ?_
  rintro e60 w60 ⟨rfl, hb60⟩
  obtain ⟨x6, rfl⟩ := after_of' (y6.out.trans (hb60.mono y6.out.size))
  clear hb60
  go_wp2_with fail
  refine (HTab.out _ (by (repeat' (first | (with_reducible exact Below.refl _ _) | (with_reducible assumption) | (with_reducible refine Below.alloc ?_ ?_ _) | (with_reducible refine Below.drew ?_) | (with_reducible refine below_drewN ?_ _) | (with_reducible refine Below.setCell ?_ ?_ _) | (with_reducible refine below_after ?_ ?_ _) | (with_reducible refine below_set ?_) | (with_reducible refine After.size_le _ ?_) | (with_reducible refine size_alloc_le ?_) | (with_reducible refine size_set_le ?_) | (with_reducible refine size_drewN_le ?_) | go_size)))).mono ?_
  rintro e7 w7 ⟨rfl, hb7⟩
  go_wp2
  go_ret
  exact ⟨rfl, x6.out.trans (hb7.mono x6.out.size)⟩
set_option maxRecDepth 100000 in
set_option maxHeartbeats 1000000 in
theorem utexts_no_bad (HTab : Hid (∀ W, Below w.heap.size w W → Calls Tryd.prog 11 #[] W fun e w' => e = .returned (.bool true) ∧ Below W.heap.size W w')) (hn : n ≤ 700) (hc : (c == 0) = false) (P1 : Hid (∀ W, Below w.heap.size w W → Calls Tryd.prog 12 #[.string (tx L)] W fun e w' => e = .returned (.tuple #[.slice none 0 0, .int .i64 kk, .int .i64 c]) ∧ Below W.heap.size W w'))
    (P2 : Hid (∀ W, Below w.heap.size w W → Calls Tryd.prog 13 #[.string (tx L)] W fun e w' => e = .returned (.tuple #[.slice none 0 0, .int .i64 kk, .int .i64 c]) ∧ Below W.heap.size W w'))
    (F1 : Hid (∀ W, Below w.heap.size w W → Calls Tryd.prog 15 #[.slice a n cap] W fun e w' => e = .returned (.string (tx A)) ∧ Below W.heap.size W w'))
    (F2 : Hid (∀ W, Below w.heap.size w W → Calls Tryd.prog 16 #[.slice a n cap] W fun e w' => e = .returned (.string (tx A)) ∧ Below W.heap.size W w'))
    (F3 : Hid (∀ W, Below w.heap.size w W → Calls Tryd.prog 17 #[.slice a n cap] W fun e w' => e = .returned (.bool false) ∧ Below W.heap.size W w')) :
    Calls Tryd.prog 4 #[.slice a n cap, .string (tx L)] w fun e w' => e = .returned (.bool true) ∧ Below w.heap.size w w' := by
  have hn' : (n : Int) ≤ 700 := by omega
  go_enter Tryd.func4, Tryd.ntmps4
  go_wp2_with fail
  refine (P1.out _ (by (repeat' (first | (with_reducible exact Below.refl _ _) | (with_reducible assumption) | (with_reducible refine Below.alloc ?_ ?_ _) | (with_reducible refine Below.drew ?_) | (with_reducible refine below_drewN ?_ _) | (with_reducible refine Below.setCell ?_ ?_ _) | (with_reducible refine below_after ?_ ?_ _) | (with_reducible refine below_set ?_) | (with_reducible refine After.size_le _ ?_) | (with_reducible refine size_alloc_le ?_) | (with_reducible refine size_set_le ?_) | (with_reducible refine size_drewN_le ?_) | go_size)))).mono ?_
  rintro e1 w1 ⟨rfl, hb1⟩
  obtain ⟨x1, rfl⟩ := after_of' hb1
  clear hb1
  go_wp2_with fail
  refine (P2.out _ (by (repeat' (first | (with_reducible exact Below.refl _ _) | (with_reducible assumption) | (with_reducible refine Below.alloc ?_ ?_ _) | (with_reducible refine Below.drew ?_) | (with_reducible refine below_drewN ?_ _) | (with_reducible refine Below.setCell ?_ ?_ _) | (with_reducible refine below_after ?_ ?_ _) | (with_reducible refine below_set ?_) | (with_reducible refine After.size_le _ ?_) | (with_reducible refine size_alloc_le ?_) | (with_reducible refine size_set_le ?_) | (with_reducible refine size_drewN_le ?_) | go_size)))).mono ?_
  rintro e2 w2 ⟨rfl, hb2⟩
  obtain ⟨x2, rfl⟩ := after_of' (x1.out.trans (hb2.mono x1.out.size))
  clear hb2
  go_wp2_with fail
  refine (sameU_nil none none 0 0 _).mono ?_
  rintro e3 w3 ⟨rfl, hb3⟩
  obtain ⟨x4, rfl⟩ := after_of' (x2.out.trans (hb3.mono x2.out.size))
  clear hb3
  go_wp2_with fail
  refine (F1.out _ (by (repeat' (first | (with_reducible exact Below.refl _ _) | (with_reducible assumption) | (with_reducible refine Below.alloc ?_ ?_ _) | (with_reducible refine Below.drew ?_) | (with_reducible refine below_drewN ?_ _) | (with_reducible refine Below.setCell ?_ ?_ _) | (with_reducible refine below_after ?_ ?_ _) | (with_reducible refine below_set ?_) | (with_reducible refine After.size_le _ ?_) | (with_reducible refine size_alloc_le ?_) | (with_reducible refine size_set_le ?_) | (with_reducible refine size_drewN_le ?_) | go_size)))).mono ?_
  rintro e5 w5 ⟨rfl, hb5⟩
  obtain ⟨x5, rfl⟩ := after_of' (x4.out.trans (hb5.mono x4.out.size))
  clear hb5
  go_wp2_with fail
  refine (F2.out _ (by (repeat' (first | (with_reducible exact Below.refl _ _) | (with_reducible assumption) | (with_reducible refine Below.alloc ?_ ?_ _) | (with_reducible refine Below.drew ?_) | (with_reducible refine below_drewN ?_ _) | (with_reducible refine Below.setCell ?_ ?_ _) | (with_reducible refine below_after ?_ ?_ _) | (with_reducible refine below_set ?_) | (with_reducible refine After.size_le _ ?_) | (with_reducible refine size_alloc_le ?_) | (with_reducible refine size_set_le ?_) | (with_reducible refine size_drewN_le ?_) | go_size)))).mono ?_
  rintro e6 w6 ⟨rfl, hb6⟩
  obtain ⟨y6, rfl⟩ := after_of' (x5.out.trans (hb6.mono x5.out.size))
  clear hb6
  go_wp2_with fail
  refine (F3.out _ (by (repeat' (first | (with_reducible exact Below.refl _ _) | (with_reducible assumption) | (with_reducible refine Below.alloc ?_ ?_ _) | (with_reducible refine Below.drew ?_) | (with_reducible refine below_drewN ?_ _) | (with_reducible refine Below.setCell ?_ ?_ _) | (with_reducible refine below_after ?_ ?_ _) | (with_reducible refine below_set ?_) | (with_reducible refine After.size_le _ ?_) | (with_reducible refine size_alloc_le ?_) | (with_reducible refine size_set_le ?_) | (with_reducible refine size_drewN_le ?_) | go_size)))).mono ?_
  rintro e60 w60 ⟨rfl, hb60⟩
  obtain ⟨x6, rfl⟩ := after_of' (y6.out.trans (hb60.mono y6.out.size))
  clear hb60
  go_wp2_with fail
  refine (HTab.out _ (by (repeat' (first | (with_reducible exact Below.refl _ _) | (with_reducible assumption) | (with_reducible refine Below.alloc ?_ ?_ _) | (with_reducible refine Below.drew ?_) | (with_reducible refine below_drewN ?_ _) | (with_reducible refine Below.setCell ?_ ?_ _) | (with_reducible refine below_after ?_ ?_ _) | (with_reducible refine below_set ?_) | (with_reducible refine After.size_le _ ?_) | (with_reducible refine size_alloc_le ?_) | (with_reducible refine size_set_le ?_) | (with_reducible refine size_drewN_le ?_) | go_size)))).mono ?_
  rintro e7 w7 ⟨rfl, hb7⟩
  go_wp2
  go_ret
  exact ⟨rfl, x6.out.trans (hb7.mono x6.out.size)⟩
set_option maxRecDepth 100000 in
set_option maxHeartbeats 1000000 in
theorem utexts_read_good (HTab : Hid (∀ W, Below w.heap.size w W → Calls Tryd.prog 11 #[] W fun e w' => e = .returned (.bool true) ∧ Below W.heap.size W w')) (hn : ps.length ≤ 700) (P1 : Hid (∀ W, Below w.heap.size w W → Calls Tryd.prog 12 #[.string (tx L)] W fun e w' => ReadsU w' qs e ∧ Below W.heap.size W w'))
    (P2 : Hid (∀ W, Below w.heap.size w W → Calls Tryd.prog 13 #[.string (tx L)] W fun e w' => ReadsU w' qs e ∧ Below W.heap.size W w'))
    (k2 : qs.length ≤ 1000) (HS : Hid (Std w)) (HA : Hid (formUS qs = L))
    (l2 : ps.length ≤ 1000) (HM : Hid (Prc w w.heap.size (.slice a ps.length cap) ps)) (P3 : Hid (∀ W, Below w.heap.size w W → Calls Tryd.prog 12 #[.string (tx A)] W fun e w' => ReadsU w' ps e ∧ Below W.heap.size W w'))
    (F1 : Hid (∀ W, Below w.heap.size w W → Calls Tryd.prog 15 #[.slice a ps.length cap] W fun e w' => e = .returned (.string (tx A)) ∧ Below W.heap.size W w'))
    (F2 : Hid (∀ W, Below w.heap.size w W → Calls Tryd.prog 16 #[.slice a ps.length cap] W fun e w' => e = .returned (.string (tx A)) ∧ Below W.heap.size W w'))
    (F3 : Hid (∀ W, Below w.heap.size w W → Calls Tryd.prog 17 #[.slice a ps.length cap] W fun e w' => e = .returned (.bool true) ∧ Below W.heap.size W w')) :
    Calls Tryd.prog 4 #[.slice a ps.length cap, .string (tx L)] w fun e w' => e = .returned (.bool true) ∧ Below w.heap.size w w' := by
  have hn' : (ps.length : Int) ≤ 700 := by omega
  go_enter Tryd.func4, Tryd.ntmps4
  go_wp2_with fail
  refine (P1.out _ (by (repeat' (first | (with_reducible exact Below.refl _ _) | (with_reducible assumption) | (with_reducible refine Below.alloc ?_ ?_ _) | (with_reducible refine Below.drew ?_) | (with_reducible refine below_drewN ?_ _) | (with_reducible refine Below.setCell ?_ ?_ _) | (with_reducible refine below_after ?_ ?_ _) | (with_reducible refine below_set ?_) | (with_reducible refine After.size_le _ ?_) | (with_reducible refine size_alloc_le ?_) | (with_reducible refine size_set_le ?_) | (with_reducible refine size_drewN_le ?_) | go_size)))).mono ?_
  rintro e1 w1 ⟨⟨a1, c1, rfl, h1⟩, hb1⟩
  obtain ⟨x1, rfl⟩ := after_of' hb1
  go_wp2_with fail
  refine (P2.out _ (by (repeat' (first | (with_reducible exact Below.refl _ _) | (with_reducible assumption) | (with_reducible refine Below.alloc ?_ ?_ _) | (with_reducible refine Below.drew ?_) | (with_reducible refine below_drewN ?_ _) | (with_reducible refine Below.setCell ?_ ?_ _) | (with_reducible refine below_after ?_ ?_ _) | (with_reducible refine below_set ?_) | (with_reducible refine After.size_le _ ?_) | (with_reducible refine size_alloc_le ?_) | (with_reducible refine size_set_le ?_) | (with_reducible refine size_drewN_le ?_) | go_size)))).mono ?_
  rintro e2 w2 ⟨⟨a2, c2, rfl, h2⟩, hb2⟩
  have h1' := Lib.hid (prc_on h1 hb2)
  have h2' := Lib.hid h2
  obtain ⟨x2, rfl⟩ := after_of' (x1.out.trans (hb2.mono x1.out.size))
  clear hb1 hb2 h1 h2
  have HSm := Lib.hid (same_prc h1'.out h2'.out k2)
  have HFm := Lib.hid (formatU_say h1'.out k2 (HS.out.on x2.out))
  rw [HA.out] at HFm
  clear h1' h2'
  go_wp2_with fail
  refine (HSm.out _ (by (repeat' (first | (with_reducible exact Nat.le_refl _) | (with_reducible exact Below.refl _ _) | (with_reducible assumption) | (with_reducible refine Below.alloc ?_ ?_ _) | (with_reducible refine Below.drew ?_) | (with_reducible refine below_drewN ?_ _) | (with_reducible refine Below.setCell ?_ ?_ _) | (with_reducible refine below_after ?_ ?_ _) | (with_reducible refine below_set ?_) | (with_reducible refine After.size_le _ ?_) | (with_reducible refine size_alloc_le ?_) | (with_reducible refine size_set_le ?_) | (with_reducible refine size_drewN_le ?_) | go_size)))).mono ?_
  rintro e3 w3 ⟨rfl, hb3⟩
  obtain ⟨x3, rfl⟩ := after_of' hb3
  clear hb3
  go_wp2_with fail
  refine (HFm.out _ (by (repeat' (first | (with_reducible exact Nat.le_refl _) | (with_reducible exact Below.refl _ _) | (with_reducible assumption) | (with_reducible refine Below.alloc ?_ ?_ _) | (with_reducible refine Below.drew ?_) | (with_reducible refine below_drewN ?_ _) | (with_reducible refine Below.setCell ?_ ?_ _) | (with_reducible refine below_after ?_ ?_ _) | (with_reducible refine below_set ?_) | (with_reducible refine After.size_le _ ?_) | (with_reducible refine size_alloc_le ?_) | (with_reducible refine size_set_le ?_) | (with_reducible refine size_drewN_le ?_) | go_size)))).mono ?_
  rintro e4 w4 ⟨rfl, hb4⟩
  have hx4 : Below w.heap.size w w4 := x2.out.trans ((x3.out.mono x2.out.size).trans (hb4.mono (Nat.le_trans x2.out.size x3.out.size)))
  obtain ⟨x4, rfl⟩ := after_of' hx4
  clear hb4 hx4 HSm HFm
  go_wp2_with fail
  refine (F1.out _ (by (repeat' (first | (with_reducible exact Below.refl _ _) | (with_reducible assumption) | (with_reducible refine Below.alloc ?_ ?_ _) | (with_reducible refine Below.drew ?_) | (with_reducible refine below_drewN ?_ _) | (with_reducible refine Below.setCell ?_ ?_ _) | (with_reducible refine below_after ?_ ?_ _) | (with_reducible refine below_set ?_) | (with_reducible refine After.size_le _ ?_) | (with_reducible refine size_alloc_le ?_) | (with_reducible refine size_set_le ?_) | (with_reducible refine size_drewN_le ?_) | go_size)))).mono ?_
  rintro e5 w5 ⟨rfl, hb5⟩
  obtain ⟨x5, rfl⟩ := after_of' (x4.out.trans (hb5.mono x4.out.size))
  clear hb5
  go_wp2_with fail
  refine (F2.out _ (by (repeat' (first | (with_reducible exact Below.refl _ _) | (with_reducible assumption) | (with_reducible refine Below.alloc ?_ ?_ _) | (with_reducible refine Below.drew ?_) | (with_reducible refine below_drewN ?_ _) | (with_reducible refine Below.setCell ?_ ?_ _) | (with_reducible refine below_after ?_ ?_ _) | (with_reducible refine below_set ?_) | (with_reducible refine After.size_le _ ?_) | (with_reducible refine size_alloc_le ?_) | (with_reducible refine size_set_le ?_) | (with_reducible refine size_drewN_le ?_) | go_size)))).mono ?_
  rintro e6 w6 ⟨rfl, hb6⟩
  obtain ⟨y6, rfl⟩ := after_of' (x5.out.trans (hb6.mono x5.out.size))
  clear hb6
  go_wp2_with fail
  refine (F3.out _ (by (repeat' (first | (with_reducible exact Below.refl _ _) | (with_reducible assumption) | (with_reducible refine Below.alloc ?_ ?_ _) | (with_reducible refine Below.drew ?_) | (with_reducible refine below_drewN ?_ _) | (with_reducible refine Below.setCell ?_ ?_ _) | (with_reducible refine below_after ?_ ?_ _) | (with_reducible refine below_set ?_) | (with_reducible refine After.size_le _ ?_) | (with_reducible refine size_alloc_le ?_) | (with_reducible refine size_set_le ?_) | (with_reducible refine size_drewN_le ?_) | go_size)))).mono ?_
  rintro e60 w60 ⟨rfl, hb60⟩
  obtain ⟨x6, rfl⟩ := after_of' (y6.out.trans (hb60.mono y6.out.size))
  clear hb60
  go_wp2_with fail
  refine (P3.out _ (by (repeat' (first | (with_reducible exact Below.refl _ _) | (with_reducible assumption) | (with_reducible refine Below.alloc ?_ ?_ _) | (with_reducible refine Below.drew ?_) | (with_reducible refine below_drewN ?_ _) | (with_reducible refine Below.setCell ?_ ?_ _) | (with_reducible refine below_after ?_ ?_ _) | (with_reducible refine below_set ?_) | (with_reducible refine After.size_le _ ?_) | (with_reducible refine size_alloc_le ?_) | (with_reducible refine size_set_le ?_) | (with_reducible refine size_drewN_le ?_) | go_size)))).mono ?_
  rintro e7 w7 ⟨⟨a7, c7, rfl, h7⟩, hb7⟩
  have h7' := Lib.hid h7
  obtain ⟨x7, rfl⟩ := after_of' (x6.out.trans (hb7.mono x6.out.size))
  clear hb7 h7
  have HSl := Lib.hid (same_prc h7'.out (prc_on HM.out x7.out) l2)
  go_wp2_with fail
  refine (HSl.out _ (by (repeat' (first | (with_reducible exact Nat.le_refl _) | (with_reducible exact Below.refl _ _) | (with_reducible assumption) | (with_reducible refine Below.alloc ?_ ?_ _) | (with_reducible refine Below.drew ?_) | (with_reducible refine below_drewN ?_ _) | (with_reducible refine Below.setCell ?_ ?_ _) | (with_reducible refine below_after ?_ ?_ _) | (with_reducible refine below_set ?_) | (with_reducible refine After.size_le _ ?_) | (with_reducible refine size_alloc_le ?_) | (with_reducible refine size_set_le ?_) | (with_reducible refine size_drewN_le ?_) | go_size)))).mono ?_
  rintro e8 w8 ⟨rfl, hb8⟩
  obtain ⟨x8, rfl⟩ := after_of' (x7.out.trans (hb8.mono x7.out.size))
  clear hb8 h7' HSl
  go_wp2_with fail
  refine (HTab.out _ (by (repeat' (first | (with_reducible exact Below.refl _ _) | (with_reducible assumption) | (with_reducible refine Below.alloc ?_ ?_ _) | (with_reducible refine Below.drew ?_) | (with_reducible refine below_drewN ?_ _) | (with_reducible refine Below.setCell ?_ ?_ _) | (with_reducible refine below_after ?_ ?_ _) | (with_reducible refine below_set ?_) | (with_reducible refine After.size_le _ ?_) | (with_reducible refine size_alloc_le ?_) | (with_reducible refine size_set_le ?_) | (with_reducible refine size_drewN_le ?_) | go_size)))).mono ?_
  rintro e9 w9 ⟨rfl, hb9⟩
  go_wp2
  go_ret
  exact ⟨rfl, x8.out.trans (hb9.mono x8.out.size)⟩
set_option maxRecDepth 100000 in
set_option maxHeartbeats 1000000 in
theorem utexts_no_good (HTab : Hid (∀ W, Below w.heap.size w W → Calls Tryd.prog 11 #[] W fun e w' => e = .returned (.bool true) ∧ Below W.heap.size W w')) (hn : ps.length ≤ 700) (hc : (c == 0) = false) (P1 : Hid (∀ W, Below w.heap.size w W → Calls Tryd.prog 12 #[.string (tx L)] W fun e w' => e = .returned (.tuple #[.slice none 0 0, .int .i64 kk, .int .i64 c]) ∧ Below W.heap.size W w'))
    (P2 : Hid (∀ W, Below w.heap.size w W → Calls Tryd.prog 13 #[.string (tx L)] W fun e w' => e = .returned (.tuple #[.slice none 0 0, .int .i64 kk, .int .i64 c]) ∧ Below W.heap.size W w'))
    (l2 : ps.length ≤ 1000) (HM : Hid (Prc w w.heap.size (.slice a ps.length cap) ps)) (P3 : Hid (∀ W, Below w.heap.size w W → Calls Tryd.prog 12 #[.string (tx A)] W fun e w' => ReadsU w' ps e ∧ Below W.heap.size W w'))
    (F1 : Hid (∀ W, Below w.heap.size w W → Calls Tryd.prog 15 #[.slice a ps.length cap] W fun e w' => e = .returned (.string (tx A)) ∧ Below W.heap.size W w'))
    (F2 : Hid (∀ W, Below w.heap.size w W → Calls Tryd.prog 16 #[.slice a ps.length cap] W fun e w' => e = .returned (.string (tx A)) ∧ Below W.heap.size W w'))
    (F3 : Hid (∀ W, Below w.heap.size w W → Calls Tryd.prog 17 #[.slice a ps.length cap] W fun e w' => e = .returned (.bool true) ∧ Below W.heap.size W w')) :
    Calls Tryd.prog 4 #[.slice a ps.length cap, .string (tx L)] w fun e w' => e = .returned (.bool true) ∧ Below w.heap.size w w' := by
  have hn' : (ps.length : Int) ≤ 700 := by omega
  go_enter Tryd.func4, Tryd.ntmps4
  go_wp2_with fail
  refine (P1.out _ (by (repeat' (first | (with_reducible exact Below.refl _ _) | (with_reducible assumption) | (with_reducible refine Below.alloc ?_ ?_ _) | (with_reducible refine Below.drew ?_) | (with_reducible refine below_drewN ?_ _) | (with_reducible refine Below.setCell ?_ ?_ _) | (with_reducible refine below_after ?_ ?_ _) | (with_reducible refine below_set ?_) | (with_reducible refine After.size_le _ ?_) | (with_reducible refine size_alloc_le ?_) | (with_reducible refine size_set_le ?_) | (with_reducible refine size_drewN_le ?_) | go_size)))).mono ?_
  rintro e1 w1 ⟨rfl, hb1⟩
  obtain ⟨x1, rfl⟩ := after_of' hb1
  clear hb1
  go_wp2_with fail
  refine (P2.out _ (by (repeat' (first | (with_reducible exact Below.refl _ _) | (with_reducible assumption) | (with_reducible refine Below.alloc ?_ ?_ _) | (with_reducible refine Below.drew ?_) | (with_reducible refine below_drewN ?_ _) | (with_reducible refine Below.setCell ?_ ?_ _) | (with_reducible refine below_after ?_ ?_ _) | (with_reducible refine below_set ?_) | (with_reducible refine After.size_le _ ?_) | (with_reducible refine size_alloc_le ?_) | (with_reducible refine size_set_le ?_) | (with_reducible refine size_drewN_le ?_) | go_size)))).mono ?_
  rintro e2 w2 ⟨rfl, hb2⟩
  obtain ⟨x2, rfl⟩ := after_of' (x1.out.trans (hb2.mono x1.out.size))
  clear hb2
  go_wp2_with fail
  refine (sameU_nil none none 0 0 _).mono ?_
  rintro e3 w3 ⟨rfl, hb3⟩
  obtain ⟨x4, rfl⟩ := after_of' (x2.out.trans (hb3.mono x2.out.size))
  clear hb3
  go_wp2_with fail
  refine (F1.out _ (by (repeat' (first | (with_reducible exact Below.refl _ _) | (with_reducible assumption) | (with_reducible refine Below.alloc ?_ ?_ _) | (with_reducible refine Below.drew ?_) | (with_reducible refine below_drewN ?_ _) | (with_reducible refine Below.setCell ?_ ?_ _) | (with_reducible refine below_after ?_ ?_ _) | (with_reducible refine below_set ?_) | (with_reducible refine After.size_le _ ?_) | (with_reducible refine size_alloc_le ?_) | (with_reducible refine size_set_le ?_) | (with_reducible refine size_drewN_le ?_) | go_size)))).mono ?_
  rintro e5 w5 ⟨rfl, hb5⟩
  obtain ⟨x5, rfl⟩ := after_of' (x4.out.trans (hb5.mono x4.out.size))
  clear hb5
  go_wp2_with fail
  refine (F2.out _ (by (repeat' (first | (with_reducible exact Below.refl _ _) | (with_reducible assumption) | (with_reducible refine Below.alloc ?_ ?_ _) | (with_reducible refine Below.drew ?_) | (with_reducible refine below_drewN ?_ _) | (with_reducible refine Below.setCell ?_ ?_ _) | (with_reducible refine below_after ?_ ?_ _) | (with_reducible refine below_set ?_) | (with_reducible refine After.size_le _ ?_) | (with_reducible refine size_alloc_le ?_) | (with_reducible refine size_set_le ?_) | (with_reducible refine size_drewN_le ?_) | go_size)))).mono ?_
  rintro e6 w6 ⟨rfl, hb6⟩
  obtain ⟨y6, rfl⟩ := after_of' (x5.out.trans (hb6.mono x5.out.size))
  clear hb6
  go_wp2_with fail
  refine (F3.out _ (by (repeat' (first | (with_reducible exact Below.refl _ _) | (with_reducible assumption) | (with_reducible refine Below.alloc ?_ ?_ _) | (with_reducible refine Below.drew ?_) | (with_reducible refine below_drewN ?_ _) | (with_reducible refine Below.setCell ?_ ?_ _) | (with_reducible refine below_after ?_ ?_ _) | (with_reducible refine below_set ?_) | (with_reducible refine After.size_le _ ?_) | (with_reducible refine size_alloc_le ?_) | (with_reducible refine size_set_le ?_) | (with_reducible refine size_drewN_le ?_) | go_size)))).mono ?_
  rintro e60 w60 ⟨rfl, hb60⟩
  obtain ⟨x6, rfl⟩ := after_of' (y6.out.trans (hb60.mono y6.out.size))
  clear hb60
  go_wp2_with fail
  refine (P3.out _ (by (repeat' (first | (with_reducible exact Below.refl _ _) | (with_reducible assumption) | (with_reducible refine Below.alloc ?_ ?_ _) | (with_reducible refine Below.drew ?_) | (with_reducible refine below_drewN ?_ _) | (with_reducible refine Below.setCell ?_ ?_ _) | (with_reducible refine below_after ?_ ?_ _) | (with_reducible refine below_set ?_) | (with_reducible refine After.size_le _ ?_) | (with_reducible refine size_alloc_le ?_) | (with_reducible refine size_set_le ?_) | (with_reducible refine size_drewN_le ?_) | go_size)))).mono ?_
  rintro e7 w7 ⟨⟨a7, c7, rfl, h7⟩, hb7⟩
  have h7' := Lib.hid h7
  obtain ⟨x7, rfl⟩ := after_of' (x6.out.trans (hb7.mono x6.out.size))
  clear hb7 h7
  have HSl := Lib.hid (same_prc h7'.out (prc_on HM.out x7.out) l2)
  go_wp2_with fail
  refine (HSl.out _ (by (repeat' (first | (with_reducible exact Nat.le_refl _) | (with_reducible exact Below.refl _ _) | (with_reducible assumption) | (with_reducible refine Below.alloc ?_ ?_ _) | (with_reducible refine Below.drew ?_) | (with_reducible refine below_drewN ?_ _) | (with_reducible refine Below.setCell ?_ ?_ _) | (with_reducible refine below_after ?_ ?_ _) | (with_reducible refine below_set ?_) | (with_reducible refine After.size_le _ ?_) | (with_reducible refine size_alloc_le ?_) | (with_reducible refine size_set_le ?_) | (with_reducible refine size_drewN_le ?_) | go_size)))).mono ?_
  rintro e8 w8 ⟨rfl, hb8⟩
  obtain ⟨x8, rfl⟩ := after_of' (x7.out.trans (hb8.mono x7.out.size))
  clear hb8 h7' HSl
  go_wp2_with fail
  refine (HTab.out _ (by (repeat' (first | (with_reducible exact Below.refl _ _) | (with_reducible assumption) | (with_reducible refine Below.alloc ?_ ?_ _) | (with_reducible refine Below.drew ?_) | (with_reducible refine below_drewN ?_ _) | (with_reducible refine Below.setCell ?_ ?_ _) | (with_reducible refine below_after ?_ ?_ _) | (with_reducible refine below_set ?_) | (with_reducible refine After.size_le _ ?_) | (with_reducible refine size_alloc_le ?_) | (with_reducible refine size_set_le ?_) | (with_reducible refine size_drewN_le ?_) | go_size)))).mono ?_
  rintro e9 w9 ⟨rfl, hb9⟩
  go_wp2
  go_ret
  exact ⟨rfl, x8.out.trans (hb9.mono x8.out.size)⟩
end

theorem ropeTexts_any (v0 : Value) (ps : List (Int × Int)) (s : ByteArray) (w : World) (hM : Prc w w.heap.size v0 ps) (hS : Std w) :
    Calls Tryd.prog 4 #[v0, .string s] w fun e w' => e = .returned (.bool true) ∧ Below w.heap.size w w' := by
  obtain ⟨a, cap, rfl⟩ := prc_slice hM
  have HTab := Lib.hid (fun W (_ : Below w.heap.size w W) => awake_any W)
  by_cases hn : 700 < ps.length
  · exact ropeTexts_long a _ cap s w hn HTab
  obtain ⟨L, rfl⟩ : ∃ L, s = tx L := ⟨s.data.toList, by cases s; rfl⟩
  have hn' : ps.length ≤ 700 := by omega
  have F1 := formatU_say hM (by omega) hS
  have F2 := rformatU_say hM (by omega)
  have F3 := fun W (hW : Below w.heap.size w W) => rvalidUses_v _ ps W (prc_on hM hW) (by omega) (decide (GoodU ps)) rfl
  by_cases hG : GoodU ps
  · have hA : formUS ps = formU ps := if_pos hG
    have hin : ∀ p ∈ ps, In2 p := fun p hp => by
      obtain ⟨i, hi⟩ := List.getElem?_of_mem hp
      exact goodU_in2 hG hi
    have hl := formU_len hin
    have h5 := hG.1
    have P3 := parseU_whole (w := w) (L := formU ps) (by omega) hS (formU_whole hG)
    rw [hA] at F1 F2
    rw [decide_eq_true hG] at F3
    rcases textU_or L hS with ⟨hL, qs, hw⟩ | ⟨k, c, p1, p2, hc⟩
    · have hq := hw.1.1
      exact utexts_read_good a cap L _ w ps qs HTab hn' (Lib.hid (parseU_whole hL hS hw)) (Lib.hid (rparseU_whole hL hw)) (by have := hq.1; omega) (Lib.hid hS) (Lib.hid ((if_pos hq).trans (wholeU_form hw).symm)) (by omega) (Lib.hid hM) (Lib.hid P3) (Lib.hid F1) (Lib.hid F2) (Lib.hid F3)
    · exact utexts_no_good a cap L _ w ps k c HTab hn' hc (Lib.hid p1) (Lib.hid p2) (by omega) (Lib.hid hM) (Lib.hid P3) (Lib.hid F1) (Lib.hid F2) (Lib.hid F3)
  · have hA : formUS ps = [] := if_neg hG
    rw [hA] at F1 F2
    rw [decide_eq_false hG] at F3
    rcases textU_or L hS with ⟨hL, qs, hw⟩ | ⟨k, c, p1, p2, hc⟩
    · have hq := hw.1.1
      exact utexts_read_bad a _ cap L _ w qs HTab hn' (Lib.hid (parseU_whole hL hS hw)) (Lib.hid (rparseU_whole hL hw)) (by have := hq.1; omega) (Lib.hid hS) (Lib.hid ((if_pos hq).trans (wholeU_form hw).symm)) (Lib.hid F1) (Lib.hid F2) (Lib.hid F3)
    · exact utexts_no_bad a _ cap L _ w k c HTab hn' hc (Lib.hid p1) (Lib.hid p2) (Lib.hid F1) (Lib.hid F2) (Lib.hid F3)
end Go.Proofs.YtccjfmhbmieigaaDoor
