/- WindWindows: the law's walk. -/
import Derived.Test.YtlnlgboeohfpdaaDoorLawWst
import Derived.Test.YtlnlgboeohfpdaaDoorWvi
namespace Go.Proofs.YtlnlgboeohfpdaaDoor
open Go.RowKit
attribute [local go_sem] After.cell After.frozen After.lt After.le After.ne After.ne' After.set_eq After.size_set After.lt_add

/-- What the law looks at. -/
def Small (n from' till : Int) : Prop := ¬ (30 < n ∧ n ≤ 200) ∧ ¬ 220 < n ∧ ¬ (0 ≤ from' ∧ from' ≤ till ∧ till ≤ 100000 ∧ 600 < till - from')
set_option maxRecDepth 100000 in
set_option maxHeartbeats 4000000 in
theorem windWindows_any (a : Option Addr) (n cap : Nat) (fr to lo hi : Nat → Int) (mark k from' till : Int) (w : World)
    (hA : CAt w a n fr to lo hi) (hn : n ≤ 9223372036854775807) (hS : Stw w) :
    Calls Tryd.prog 8 #[.slice a n cap, .int .i64 mark, .int .i64 k, .int .i64 from', .int .i64 till] w fun e w' => e = .returned (.bool true) ∧ Below w.heap.size w w' := by
  have HAw := Lib.hid (fun W (hW : Below w.heap.size w W) => awake_any W (hS.on hW))
  have P1 := Lib.hid (fun W (hW : Below w.heap.size w W) => sure_say a n cap fr to lo hi mark k from' till W (hA.on hW) hn)
  have R1 := Lib.hid (fun W (hW : Below w.heap.size w W) => rsure_say a n cap fr to lo hi mark k from' till W (hA.on hW) hn)
  have P2 := Lib.hid (fun W (hW : Below w.heap.size w W) => maybe_say a n cap fr to lo hi mark k from' till W (hA.on hW) hn)
  have R2 := Lib.hid (fun W (hW : Below w.heap.size w W) => rmaybe_say a n cap fr to lo hi mark k from' till W (hA.on hW) hn)
  have P3 := Lib.hid (fun W (hW : Below w.heap.size w W) => merged_say a n cap fr to lo hi W (hA.on hW) hn)
  have R3 := Lib.hid (fun W (hW : Below w.heap.size w W) => rmerged_say a n cap fr to lo hi W (hA.on hW) hn)
  have PV := Lib.hid (fun W (hW : Below w.heap.size w W) => validCasts_any a n cap fr to lo hi W (hA.on hW) hn)
  have RV := Lib.hid (fun W (hW : Below w.heap.size w W) => rvalidCasts_any a n cap fr to lo hi W (hA.on hW) hn)
  have PX := Lib.hid (fun W a' n' cap' fr' to' lo' hi' (hA' : CAt W a' n' fr' to' lo' hi') (hn' : n' ≤ 9223372036854775807) => sure_say a' n' cap' fr' to' lo' hi' mark k from' till W hA' hn')
  have hml : (mgA n fr to lo hi).length ≤ 1000000 := by
    unfold mgA
    split
    · rename_i h
      have := (of_decide_eq_true h).2
      exact Nat.le_trans (mgL_len n) (by omega)
    · simp
  clear hA hS
  by_cases h30 : (30 : Int) < (n : Int)
  · have d30 : decide ((30 : Int) < (n : Int)) = true := decide_eq_true h30
    by_cases h200 : (n : Int) ≤ 200
    · have d200 : decide ((n : Int) ≤ 200) = true := decide_eq_true h200
      go_enter Tryd.func8, Tryd.ntmps8
      go_wp2_with fail
      refine calls_after (HAw.out _ (by (repeat' (first | (with_reducible exact Below.refl _ _) | (with_reducible assumption) | (with_reducible refine Below.alloc ?_ ?_ _) | (with_reducible refine Below.drew ?_) | (with_reducible refine below_drewN ?_ _) | (with_reducible refine Below.setCell ?_ ?_ _) | (with_reducible refine below_after ?_ ?_ _) | (with_reducible refine below_set ?_) | (with_reducible refine After.size_le _ ?_) | (with_reducible refine size_alloc_le ?_) | (with_reducible refine size_set_le ?_) | (with_reducible refine size_drewN_le ?_) | go_size)))) ?_
      intro x1
      go_wp2_with fail
      go_ret
      exact ⟨rfl, by (repeat' (first | (with_reducible exact Below.refl _ _) | (with_reducible assumption) | (with_reducible refine Below.alloc ?_ ?_ _) | (with_reducible refine Below.drew ?_) | (with_reducible refine below_drewN ?_ _) | (with_reducible refine Below.setCell ?_ ?_ _) | (with_reducible refine below_after ?_ ?_ _) | (with_reducible refine below_set ?_) | (with_reducible refine After.size_le _ ?_) | (with_reducible refine size_alloc_le ?_) | (with_reducible refine size_set_le ?_) | (with_reducible refine size_drewN_le ?_) | go_size))⟩
    have d200 : decide ((n : Int) ≤ 200) = false := decide_eq_false h200
    by_cases h220 : (220 : Int) < (n : Int)
    · have d220 : decide ((220 : Int) < (n : Int)) = true := decide_eq_true h220
      go_enter Tryd.func8, Tryd.ntmps8
      go_wp2_with fail
      refine calls_after (HAw.out _ (by (repeat' (first | (with_reducible exact Below.refl _ _) | (with_reducible assumption) | (with_reducible refine Below.alloc ?_ ?_ _) | (with_reducible refine Below.drew ?_) | (with_reducible refine below_drewN ?_ _) | (with_reducible refine Below.setCell ?_ ?_ _) | (with_reducible refine below_after ?_ ?_ _) | (with_reducible refine below_set ?_) | (with_reducible refine After.size_le _ ?_) | (with_reducible refine size_alloc_le ?_) | (with_reducible refine size_set_le ?_) | (with_reducible refine size_drewN_le ?_) | go_size)))) ?_
      intro x1
      go_wp2_with fail
      go_ret
      exact ⟨rfl, by (repeat' (first | (with_reducible exact Below.refl _ _) | (with_reducible assumption) | (with_reducible refine Below.alloc ?_ ?_ _) | (with_reducible refine Below.drew ?_) | (with_reducible refine below_drewN ?_ _) | (with_reducible refine Below.setCell ?_ ?_ _) | (with_reducible refine below_after ?_ ?_ _) | (with_reducible refine below_set ?_) | (with_reducible refine After.size_le _ ?_) | (with_reducible refine size_alloc_le ?_) | (with_reducible refine size_set_le ?_) | (with_reducible refine size_drewN_le ?_) | go_size))⟩
    have d220 : decide ((220 : Int) < (n : Int)) = false := decide_eq_false h220
    by_cases g1 : 0 ≤ from'
    case neg =>
      have b1 : decide (0 ≤ from') = false := decide_eq_false g1
      clear g1
      go_enter Tryd.func8, Tryd.ntmps8
      go_wp2_with fail
      refine calls_after (HAw.out _ (by (repeat' (first | (with_reducible exact Below.refl _ _) | (with_reducible assumption) | (with_reducible refine Below.alloc ?_ ?_ _) | (with_reducible refine Below.drew ?_) | (with_reducible refine below_drewN ?_ _) | (with_reducible refine Below.setCell ?_ ?_ _) | (with_reducible refine below_after ?_ ?_ _) | (with_reducible refine below_set ?_) | (with_reducible refine After.size_le _ ?_) | (with_reducible refine size_alloc_le ?_) | (with_reducible refine size_set_le ?_) | (with_reducible refine size_drewN_le ?_) | go_size)))) ?_
      intro x1
      go_wp2_with fail
      refine (P1.out _ x1.out).mono ?_
      rintro e w2 ⟨⟨v1, e1, rfl, hw1⟩, hb2⟩
      obtain ⟨x2, rfl⟩ : ∃ x : After w, w2 = x.w := ⟨⟨w2, x1.out.trans (hb2.mono x1.out.size)⟩, rfl⟩
      have W1 := Lib.hid hw1
      clear hb2 hw1 HAw
      go_wp2_with fail
      refine (R1.out _ x2.out).mono ?_
      rintro e w3 ⟨⟨v2, e2, rfl, hw2⟩, hb3⟩
      obtain ⟨x3, rfl⟩ : ∃ x : After w, w3 = x.w := ⟨⟨w3, x2.out.trans (hb3.mono x2.out.size)⟩, rfl⟩
      obtain ⟨q1, q2⟩ := WnS.one W1.out hw2
      subst q1 q2
      clear hb3 hw2 R1
      go_wp2_with fail
      refine calls_after2 (PV.out _ (by (repeat' (first | (with_reducible exact Below.refl _ _) | (with_reducible assumption) | (with_reducible refine Below.alloc ?_ ?_ _) | (with_reducible refine Below.drew ?_) | (with_reducible refine below_drewN ?_ _) | (with_reducible refine Below.setCell ?_ ?_ _) | (with_reducible refine below_after ?_ ?_ _) | (with_reducible refine below_set ?_) | (with_reducible refine After.size_le _ ?_) | (with_reducible refine size_alloc_le ?_) | (with_reducible refine size_set_le ?_) | (with_reducible refine size_drewN_le ?_) | go_size)))) ?_
      intro x3'
      go_wp2_with fail
      refine calls_after2 (RV.out _ (by (repeat' (first | (with_reducible exact Below.refl _ _) | (with_reducible assumption) | (with_reducible refine Below.alloc ?_ ?_ _) | (with_reducible refine Below.drew ?_) | (with_reducible refine below_drewN ?_ _) | (with_reducible refine Below.setCell ?_ ?_ _) | (with_reducible refine below_after ?_ ?_ _) | (with_reducible refine below_set ?_) | (with_reducible refine After.size_le _ ?_) | (with_reducible refine size_alloc_le ?_) | (with_reducible refine size_set_le ?_) | (with_reducible refine size_drewN_le ?_) | go_size)))) ?_
      intro x4
      clear PV RV
      go_wp2_with fail
      refine (P2.out _ (by (repeat' (first | (with_reducible exact Below.refl _ _) | (with_reducible assumption) | (with_reducible refine Below.alloc ?_ ?_ _) | (with_reducible refine Below.drew ?_) | (with_reducible refine below_drewN ?_ _) | (with_reducible refine Below.setCell ?_ ?_ _) | (with_reducible refine below_after ?_ ?_ _) | (with_reducible refine below_set ?_) | (with_reducible refine After.size_le _ ?_) | (with_reducible refine size_alloc_le ?_) | (with_reducible refine size_set_le ?_) | (with_reducible refine size_drewN_le ?_) | go_size)))).mono ?_
      rintro e w5 ⟨⟨v3, e3, rfl, hw3⟩, hb5⟩
      obtain ⟨x5, rfl⟩ : ∃ x : After w, w5 = x.w := ⟨⟨w5, (show Below w.heap.size w x4.w by (repeat' (first | (with_reducible exact Below.refl _ _) | (with_reducible assumption) | (with_reducible refine Below.alloc ?_ ?_ _) | (with_reducible refine Below.drew ?_) | (with_reducible refine below_drewN ?_ _) | (with_reducible refine Below.setCell ?_ ?_ _) | (with_reducible refine below_after ?_ ?_ _) | (with_reducible refine below_set ?_) | (with_reducible refine After.size_le _ ?_) | (with_reducible refine size_alloc_le ?_) | (with_reducible refine size_set_le ?_) | (with_reducible refine size_drewN_le ?_) | go_size))).trans (hb5.mono (show Below w.heap.size w x4.w by (repeat' (first | (with_reducible exact Below.refl _ _) | (with_reducible assumption) | (with_reducible refine Below.alloc ?_ ?_ _) | (with_reducible refine Below.drew ?_) | (with_reducible refine below_drewN ?_ _) | (with_reducible refine Below.setCell ?_ ?_ _) | (with_reducible refine below_after ?_ ?_ _) | (with_reducible refine below_set ?_) | (with_reducible refine After.size_le _ ?_) | (with_reducible refine size_alloc_le ?_) | (with_reducible refine size_set_le ?_) | (with_reducible refine size_drewN_le ?_) | go_size))).size)⟩, rfl⟩
      have W2 := Lib.hid hw3
      clear hb5 hw3 P2
      go_wp2_with fail
      refine (R2.out _ x5.out).mono ?_
      rintro e w6 ⟨⟨v4, e4, rfl, hw4⟩, hb6⟩
      obtain ⟨x6, rfl⟩ : ∃ x : After w, w6 = x.w := ⟨⟨w6, x5.out.trans (hb6.mono x5.out.size)⟩, rfl⟩
      obtain ⟨q3, q4⟩ := WnS.one W2.out hw4
      subst q3 q4
      clear hb6 hw4 R2
      by_cases he : e1 = 0
      case neg =>
        have bb1 : (e1 == 0) = false := beq_eq_false_iff_ne.2 he
        go_wp2_with fail
        refine (P3.out _ x6.out).mono ?_
        rintro e w7 ⟨⟨v, rfl, hv⟩, hb7⟩
        obtain ⟨va, vc, rfl, hvi⟩ := hv.in
        obtain ⟨x7, rfl⟩ : ∃ x : After w, w7 = x.w := ⟨⟨w7, x6.out.trans (hb7.mono x6.out.size)⟩, rfl⟩
        have HV7 := Lib.hid hvi
        clear hv hb7 hvi P3
        go_wp2_with fail
        refine (R3.out _ x7.out).mono ?_
        rintro e w8 ⟨⟨u, rfl, hu⟩, hb8⟩
        obtain ⟨ua, uc, rfl, hui⟩ := hu.in
        obtain ⟨x8, rfl⟩ : ∃ x : After w, w8 = x.w := ⟨⟨w8, x7.out.trans (hb8.mono x7.out.size)⟩, rfl⟩
        have HV8 := Lib.hid (HV7.out.on hb8)
        have HSc := Lib.hid (casts_any va ua _ vc uc _ _ _ _ x8.w HV8.out hui (by omega))
        clear hu hb8 R3 hui HV7
        go_wp2_with fail
        refine HSc.out.mono ?_
        rintro e w9 ⟨rfl, hb9⟩
        have HV9 := Lib.hid (HV8.out.on hb9)
        obtain ⟨x9, rfl⟩ : ∃ x : After w, w9 = x.w := ⟨⟨w9, x8.out.trans (hb9.mono x8.out.size)⟩, rfl⟩
        clear hb9 HSc HV8
        by_cases hc : GoodCs n fr to lo hi
        case neg =>
          have eE : mgE n fr to lo hi = 1 := by unfold mgE; rw [decide_eq_false hc]; rfl
          clear hc PX HV9
          generalize mgE n fr to lo hi = e0 at *
          subst eE
          go_wp2
          go_ret
          exact ⟨rfl, by (repeat' (first | (with_reducible exact Below.refl _ _) | (with_reducible assumption) | (with_reducible refine Below.alloc ?_ ?_ _) | (with_reducible refine Below.drew ?_) | (with_reducible refine below_drewN ?_ _) | (with_reducible refine Below.setCell ?_ ?_ _) | (with_reducible refine below_after ?_ ?_ _) | (with_reducible refine below_set ?_) | (with_reducible refine After.size_le _ ?_) | (with_reducible refine size_alloc_le ?_) | (with_reducible refine size_set_le ?_) | (with_reducible refine size_drewN_le ?_) | go_size))⟩
        have eE : mgE n fr to lo hi = 0 := by unfold mgE; rw [decide_eq_true hc]; rfl
        have eA : mgA n fr to lo hi = mgL fr to lo hi n := by unfold mgA; rw [decide_eq_true hc]; rfl
        rw [eA] at HV9 ⊢
        have hln := mgL_len (fr := fr) (to := to) (lo := lo) (hi := hi) n
        have HC := Lib.hid hc
        have HPX := Lib.hid (PX.out _ va _ vc _ _ _ _ HV9.out (by omega))
        clear hc PX HV9 eA
        generalize mgE n fr to lo hi = e0 at *
        subst eE
        go_wp2_with fail
        refine HPX.out.mono ?_
        rintro e w10 ⟨⟨v9, e9, rfl, hw9⟩, hb10⟩
        obtain ⟨q5, q6⟩ := W1.out.one (WnS.merged HC.out hw9)
        subst q5 q6
        obtain ⟨x10, rfl⟩ : ∃ x : After w, w10 = x.w := ⟨⟨w10, x9.out.trans (hb10.mono x9.out.size)⟩, rfl⟩
        clear hw9 hb10 HPX
        go_wp2
        go_ret
        exact ⟨by simp, by (repeat' (first | (with_reducible exact Below.refl _ _) | (with_reducible assumption) | (with_reducible refine Below.alloc ?_ ?_ _) | (with_reducible refine Below.drew ?_) | (with_reducible refine below_drewN ?_ _) | (with_reducible refine Below.setCell ?_ ?_ _) | (with_reducible refine below_after ?_ ?_ _) | (with_reducible refine below_set ?_) | (with_reducible refine After.size_le _ ?_) | (with_reducible refine size_alloc_le ?_) | (with_reducible refine size_set_le ?_) | (with_reducible refine size_drewN_le ?_) | go_size))⟩
      subst he
      obtain ⟨rfl, hle⟩ := W1.out.sub W2.out
      have bb2 : decide (v1 < v3) = false := decide_eq_false (by omega)
      go_wp2_with fail
      refine (P3.out _ x6.out).mono ?_
      rintro e w7 ⟨⟨v, rfl, hv⟩, hb7⟩
      obtain ⟨va, vc, rfl, hvi⟩ := hv.in
      obtain ⟨x7, rfl⟩ : ∃ x : After w, w7 = x.w := ⟨⟨w7, x6.out.trans (hb7.mono x6.out.size)⟩, rfl⟩
      have HV7 := Lib.hid hvi
      clear hv hb7 hvi P3
      go_wp2_with fail
      refine (R3.out _ x7.out).mono ?_
      rintro e w8 ⟨⟨u, rfl, hu⟩, hb8⟩
      obtain ⟨ua, uc, rfl, hui⟩ := hu.in
      obtain ⟨x8, rfl⟩ : ∃ x : After w, w8 = x.w := ⟨⟨w8, x7.out.trans (hb8.mono x7.out.size)⟩, rfl⟩
      have HV8 := Lib.hid (HV7.out.on hb8)
      have HSc := Lib.hid (casts_any va ua _ vc uc _ _ _ _ x8.w HV8.out hui (by omega))
      clear hu hb8 R3 hui HV7
      go_wp2_with fail
      refine HSc.out.mono ?_
      rintro e w9 ⟨rfl, hb9⟩
      have HV9 := Lib.hid (HV8.out.on hb9)
      obtain ⟨x9, rfl⟩ : ∃ x : After w, w9 = x.w := ⟨⟨w9, x8.out.trans (hb9.mono x8.out.size)⟩, rfl⟩
      clear hb9 HSc HV8
      by_cases hc : GoodCs n fr to lo hi
      case neg =>
        have eE : mgE n fr to lo hi = 1 := by unfold mgE; rw [decide_eq_false hc]; rfl
        clear hc PX HV9
        generalize mgE n fr to lo hi = e0 at *
        subst eE
        go_wp2
        go_ret
        exact ⟨rfl, by (repeat' (first | (with_reducible exact Below.refl _ _) | (with_reducible assumption) | (with_reducible refine Below.alloc ?_ ?_ _) | (with_reducible refine Below.drew ?_) | (with_reducible refine below_drewN ?_ _) | (with_reducible refine Below.setCell ?_ ?_ _) | (with_reducible refine below_after ?_ ?_ _) | (with_reducible refine below_set ?_) | (with_reducible refine After.size_le _ ?_) | (with_reducible refine size_alloc_le ?_) | (with_reducible refine size_set_le ?_) | (with_reducible refine size_drewN_le ?_) | go_size))⟩
      have eE : mgE n fr to lo hi = 0 := by unfold mgE; rw [decide_eq_true hc]; rfl
      have eA : mgA n fr to lo hi = mgL fr to lo hi n := by unfold mgA; rw [decide_eq_true hc]; rfl
      rw [eA] at HV9 ⊢
      have hln := mgL_len (fr := fr) (to := to) (lo := lo) (hi := hi) n
      have HC := Lib.hid hc
      have HPX := Lib.hid (PX.out _ va _ vc _ _ _ _ HV9.out (by omega))
      clear hc PX HV9 eA
      generalize mgE n fr to lo hi = e0 at *
      subst eE
      go_wp2_with fail
      refine HPX.out.mono ?_
      rintro e w10 ⟨⟨v9, e9, rfl, hw9⟩, hb10⟩
      obtain ⟨q5, q6⟩ := W1.out.one (WnS.merged HC.out hw9)
      subst q5 q6
      obtain ⟨x10, rfl⟩ : ∃ x : After w, w10 = x.w := ⟨⟨w10, x9.out.trans (hb10.mono x9.out.size)⟩, rfl⟩
      clear hw9 hb10 HPX
      go_wp2
      go_ret
      exact ⟨by simp, by (repeat' (first | (with_reducible exact Below.refl _ _) | (with_reducible assumption) | (with_reducible refine Below.alloc ?_ ?_ _) | (with_reducible refine Below.drew ?_) | (with_reducible refine below_drewN ?_ _) | (with_reducible refine Below.setCell ?_ ?_ _) | (with_reducible refine below_after ?_ ?_ _) | (with_reducible refine below_set ?_) | (with_reducible refine After.size_le _ ?_) | (with_reducible refine size_alloc_le ?_) | (with_reducible refine size_set_le ?_) | (with_reducible refine size_drewN_le ?_) | go_size))⟩
    have b1 : decide (0 ≤ from') = true := decide_eq_true g1
    by_cases g2 : from' ≤ till
    case neg =>
      have b2 : decide (from' ≤ till) = false := decide_eq_false g2
      clear g2
      go_enter Tryd.func8, Tryd.ntmps8
      go_wp2_with fail
      refine calls_after (HAw.out _ (by (repeat' (first | (with_reducible exact Below.refl _ _) | (with_reducible assumption) | (with_reducible refine Below.alloc ?_ ?_ _) | (with_reducible refine Below.drew ?_) | (with_reducible refine below_drewN ?_ _) | (with_reducible refine Below.setCell ?_ ?_ _) | (with_reducible refine below_after ?_ ?_ _) | (with_reducible refine below_set ?_) | (with_reducible refine After.size_le _ ?_) | (with_reducible refine size_alloc_le ?_) | (with_reducible refine size_set_le ?_) | (with_reducible refine size_drewN_le ?_) | go_size)))) ?_
      intro x1
      go_wp2_with fail
      refine (P1.out _ x1.out).mono ?_
      rintro e w2 ⟨⟨v1, e1, rfl, hw1⟩, hb2⟩
      obtain ⟨x2, rfl⟩ : ∃ x : After w, w2 = x.w := ⟨⟨w2, x1.out.trans (hb2.mono x1.out.size)⟩, rfl⟩
      have W1 := Lib.hid hw1
      clear hb2 hw1 HAw
      go_wp2_with fail
      refine (R1.out _ x2.out).mono ?_
      rintro e w3 ⟨⟨v2, e2, rfl, hw2⟩, hb3⟩
      obtain ⟨x3, rfl⟩ : ∃ x : After w, w3 = x.w := ⟨⟨w3, x2.out.trans (hb3.mono x2.out.size)⟩, rfl⟩
      obtain ⟨q1, q2⟩ := WnS.one W1.out hw2
      subst q1 q2
      clear hb3 hw2 R1
      go_wp2_with fail
      refine calls_after2 (PV.out _ (by (repeat' (first | (with_reducible exact Below.refl _ _) | (with_reducible assumption) | (with_reducible refine Below.alloc ?_ ?_ _) | (with_reducible refine Below.drew ?_) | (with_reducible refine below_drewN ?_ _) | (with_reducible refine Below.setCell ?_ ?_ _) | (with_reducible refine below_after ?_ ?_ _) | (with_reducible refine below_set ?_) | (with_reducible refine After.size_le _ ?_) | (with_reducible refine size_alloc_le ?_) | (with_reducible refine size_set_le ?_) | (with_reducible refine size_drewN_le ?_) | go_size)))) ?_
      intro x3'
      go_wp2_with fail
      refine calls_after2 (RV.out _ (by (repeat' (first | (with_reducible exact Below.refl _ _) | (with_reducible assumption) | (with_reducible refine Below.alloc ?_ ?_ _) | (with_reducible refine Below.drew ?_) | (with_reducible refine below_drewN ?_ _) | (with_reducible refine Below.setCell ?_ ?_ _) | (with_reducible refine below_after ?_ ?_ _) | (with_reducible refine below_set ?_) | (with_reducible refine After.size_le _ ?_) | (with_reducible refine size_alloc_le ?_) | (with_reducible refine size_set_le ?_) | (with_reducible refine size_drewN_le ?_) | go_size)))) ?_
      intro x4
      clear PV RV
      go_wp2_with fail
      refine (P2.out _ (by (repeat' (first | (with_reducible exact Below.refl _ _) | (with_reducible assumption) | (with_reducible refine Below.alloc ?_ ?_ _) | (with_reducible refine Below.drew ?_) | (with_reducible refine below_drewN ?_ _) | (with_reducible refine Below.setCell ?_ ?_ _) | (with_reducible refine below_after ?_ ?_ _) | (with_reducible refine below_set ?_) | (with_reducible refine After.size_le _ ?_) | (with_reducible refine size_alloc_le ?_) | (with_reducible refine size_set_le ?_) | (with_reducible refine size_drewN_le ?_) | go_size)))).mono ?_
      rintro e w5 ⟨⟨v3, e3, rfl, hw3⟩, hb5⟩
      obtain ⟨x5, rfl⟩ : ∃ x : After w, w5 = x.w := ⟨⟨w5, (show Below w.heap.size w x4.w by (repeat' (first | (with_reducible exact Below.refl _ _) | (with_reducible assumption) | (with_reducible refine Below.alloc ?_ ?_ _) | (with_reducible refine Below.drew ?_) | (with_reducible refine below_drewN ?_ _) | (with_reducible refine Below.setCell ?_ ?_ _) | (with_reducible refine below_after ?_ ?_ _) | (with_reducible refine below_set ?_) | (with_reducible refine After.size_le _ ?_) | (with_reducible refine size_alloc_le ?_) | (with_reducible refine size_set_le ?_) | (with_reducible refine size_drewN_le ?_) | go_size))).trans (hb5.mono (show Below w.heap.size w x4.w by (repeat' (first | (with_reducible exact Below.refl _ _) | (with_reducible assumption) | (with_reducible refine Below.alloc ?_ ?_ _) | (with_reducible refine Below.drew ?_) | (with_reducible refine below_drewN ?_ _) | (with_reducible refine Below.setCell ?_ ?_ _) | (with_reducible refine below_after ?_ ?_ _) | (with_reducible refine below_set ?_) | (with_reducible refine After.size_le _ ?_) | (with_reducible refine size_alloc_le ?_) | (with_reducible refine size_set_le ?_) | (with_reducible refine size_drewN_le ?_) | go_size))).size)⟩, rfl⟩
      have W2 := Lib.hid hw3
      clear hb5 hw3 P2
      go_wp2_with fail
      refine (R2.out _ x5.out).mono ?_
      rintro e w6 ⟨⟨v4, e4, rfl, hw4⟩, hb6⟩
      obtain ⟨x6, rfl⟩ : ∃ x : After w, w6 = x.w := ⟨⟨w6, x5.out.trans (hb6.mono x5.out.size)⟩, rfl⟩
      obtain ⟨q3, q4⟩ := WnS.one W2.out hw4
      subst q3 q4
      clear hb6 hw4 R2
      by_cases he : e1 = 0
      case neg =>
        have bb1 : (e1 == 0) = false := beq_eq_false_iff_ne.2 he
        go_wp2_with fail
        refine (P3.out _ x6.out).mono ?_
        rintro e w7 ⟨⟨v, rfl, hv⟩, hb7⟩
        obtain ⟨va, vc, rfl, hvi⟩ := hv.in
        obtain ⟨x7, rfl⟩ : ∃ x : After w, w7 = x.w := ⟨⟨w7, x6.out.trans (hb7.mono x6.out.size)⟩, rfl⟩
        have HV7 := Lib.hid hvi
        clear hv hb7 hvi P3
        go_wp2_with fail
        refine (R3.out _ x7.out).mono ?_
        rintro e w8 ⟨⟨u, rfl, hu⟩, hb8⟩
        obtain ⟨ua, uc, rfl, hui⟩ := hu.in
        obtain ⟨x8, rfl⟩ : ∃ x : After w, w8 = x.w := ⟨⟨w8, x7.out.trans (hb8.mono x7.out.size)⟩, rfl⟩
        have HV8 := Lib.hid (HV7.out.on hb8)
        have HSc := Lib.hid (casts_any va ua _ vc uc _ _ _ _ x8.w HV8.out hui (by omega))
        clear hu hb8 R3 hui HV7
        go_wp2_with fail
        refine HSc.out.mono ?_
        rintro e w9 ⟨rfl, hb9⟩
        have HV9 := Lib.hid (HV8.out.on hb9)
        obtain ⟨x9, rfl⟩ : ∃ x : After w, w9 = x.w := ⟨⟨w9, x8.out.trans (hb9.mono x8.out.size)⟩, rfl⟩
        clear hb9 HSc HV8
        by_cases hc : GoodCs n fr to lo hi
        case neg =>
          have eE : mgE n fr to lo hi = 1 := by unfold mgE; rw [decide_eq_false hc]; rfl
          clear hc PX HV9
          generalize mgE n fr to lo hi = e0 at *
          subst eE
          go_wp2
          go_ret
          exact ⟨rfl, by (repeat' (first | (with_reducible exact Below.refl _ _) | (with_reducible assumption) | (with_reducible refine Below.alloc ?_ ?_ _) | (with_reducible refine Below.drew ?_) | (with_reducible refine below_drewN ?_ _) | (with_reducible refine Below.setCell ?_ ?_ _) | (with_reducible refine below_after ?_ ?_ _) | (with_reducible refine below_set ?_) | (with_reducible refine After.size_le _ ?_) | (with_reducible refine size_alloc_le ?_) | (with_reducible refine size_set_le ?_) | (with_reducible refine size_drewN_le ?_) | go_size))⟩
        have eE : mgE n fr to lo hi = 0 := by unfold mgE; rw [decide_eq_true hc]; rfl
        have eA : mgA n fr to lo hi = mgL fr to lo hi n := by unfold mgA; rw [decide_eq_true hc]; rfl
        rw [eA] at HV9 ⊢
        have hln := mgL_len (fr := fr) (to := to) (lo := lo) (hi := hi) n
        have HC := Lib.hid hc
        have HPX := Lib.hid (PX.out _ va _ vc _ _ _ _ HV9.out (by omega))
        clear hc PX HV9 eA
        generalize mgE n fr to lo hi = e0 at *
        subst eE
        go_wp2_with fail
        refine HPX.out.mono ?_
        rintro e w10 ⟨⟨v9, e9, rfl, hw9⟩, hb10⟩
        obtain ⟨q5, q6⟩ := W1.out.one (WnS.merged HC.out hw9)
        subst q5 q6
        obtain ⟨x10, rfl⟩ : ∃ x : After w, w10 = x.w := ⟨⟨w10, x9.out.trans (hb10.mono x9.out.size)⟩, rfl⟩
        clear hw9 hb10 HPX
        go_wp2
        go_ret
        exact ⟨by simp, by (repeat' (first | (with_reducible exact Below.refl _ _) | (with_reducible assumption) | (with_reducible refine Below.alloc ?_ ?_ _) | (with_reducible refine Below.drew ?_) | (with_reducible refine below_drewN ?_ _) | (with_reducible refine Below.setCell ?_ ?_ _) | (with_reducible refine below_after ?_ ?_ _) | (with_reducible refine below_set ?_) | (with_reducible refine After.size_le _ ?_) | (with_reducible refine size_alloc_le ?_) | (with_reducible refine size_set_le ?_) | (with_reducible refine size_drewN_le ?_) | go_size))⟩
      subst he
      obtain ⟨rfl, hle⟩ := W1.out.sub W2.out
      have bb2 : decide (v1 < v3) = false := decide_eq_false (by omega)
      go_wp2_with fail
      refine (P3.out _ x6.out).mono ?_
      rintro e w7 ⟨⟨v, rfl, hv⟩, hb7⟩
      obtain ⟨va, vc, rfl, hvi⟩ := hv.in
      obtain ⟨x7, rfl⟩ : ∃ x : After w, w7 = x.w := ⟨⟨w7, x6.out.trans (hb7.mono x6.out.size)⟩, rfl⟩
      have HV7 := Lib.hid hvi
      clear hv hb7 hvi P3
      go_wp2_with fail
      refine (R3.out _ x7.out).mono ?_
      rintro e w8 ⟨⟨u, rfl, hu⟩, hb8⟩
      obtain ⟨ua, uc, rfl, hui⟩ := hu.in
      obtain ⟨x8, rfl⟩ : ∃ x : After w, w8 = x.w := ⟨⟨w8, x7.out.trans (hb8.mono x7.out.size)⟩, rfl⟩
      have HV8 := Lib.hid (HV7.out.on hb8)
      have HSc := Lib.hid (casts_any va ua _ vc uc _ _ _ _ x8.w HV8.out hui (by omega))
      clear hu hb8 R3 hui HV7
      go_wp2_with fail
      refine HSc.out.mono ?_
      rintro e w9 ⟨rfl, hb9⟩
      have HV9 := Lib.hid (HV8.out.on hb9)
      obtain ⟨x9, rfl⟩ : ∃ x : After w, w9 = x.w := ⟨⟨w9, x8.out.trans (hb9.mono x8.out.size)⟩, rfl⟩
      clear hb9 HSc HV8
      by_cases hc : GoodCs n fr to lo hi
      case neg =>
        have eE : mgE n fr to lo hi = 1 := by unfold mgE; rw [decide_eq_false hc]; rfl
        clear hc PX HV9
        generalize mgE n fr to lo hi = e0 at *
        subst eE
        go_wp2
        go_ret
        exact ⟨rfl, by (repeat' (first | (with_reducible exact Below.refl _ _) | (with_reducible assumption) | (with_reducible refine Below.alloc ?_ ?_ _) | (with_reducible refine Below.drew ?_) | (with_reducible refine below_drewN ?_ _) | (with_reducible refine Below.setCell ?_ ?_ _) | (with_reducible refine below_after ?_ ?_ _) | (with_reducible refine below_set ?_) | (with_reducible refine After.size_le _ ?_) | (with_reducible refine size_alloc_le ?_) | (with_reducible refine size_set_le ?_) | (with_reducible refine size_drewN_le ?_) | go_size))⟩
      have eE : mgE n fr to lo hi = 0 := by unfold mgE; rw [decide_eq_true hc]; rfl
      have eA : mgA n fr to lo hi = mgL fr to lo hi n := by unfold mgA; rw [decide_eq_true hc]; rfl
      rw [eA] at HV9 ⊢
      have hln := mgL_len (fr := fr) (to := to) (lo := lo) (hi := hi) n
      have HC := Lib.hid hc
      have HPX := Lib.hid (PX.out _ va _ vc _ _ _ _ HV9.out (by omega))
      clear hc PX HV9 eA
      generalize mgE n fr to lo hi = e0 at *
      subst eE
      go_wp2_with fail
      refine HPX.out.mono ?_
      rintro e w10 ⟨⟨v9, e9, rfl, hw9⟩, hb10⟩
      obtain ⟨q5, q6⟩ := W1.out.one (WnS.merged HC.out hw9)
      subst q5 q6
      obtain ⟨x10, rfl⟩ : ∃ x : After w, w10 = x.w := ⟨⟨w10, x9.out.trans (hb10.mono x9.out.size)⟩, rfl⟩
      clear hw9 hb10 HPX
      go_wp2
      go_ret
      exact ⟨by simp, by (repeat' (first | (with_reducible exact Below.refl _ _) | (with_reducible assumption) | (with_reducible refine Below.alloc ?_ ?_ _) | (with_reducible refine Below.drew ?_) | (with_reducible refine below_drewN ?_ _) | (with_reducible refine Below.setCell ?_ ?_ _) | (with_reducible refine below_after ?_ ?_ _) | (with_reducible refine below_set ?_) | (with_reducible refine After.size_le _ ?_) | (with_reducible refine size_alloc_le ?_) | (with_reducible refine size_set_le ?_) | (with_reducible refine size_drewN_le ?_) | go_size))⟩
    have b2 : decide (from' ≤ till) = true := decide_eq_true g2
    by_cases g3 : till ≤ 100000
    case neg =>
      have b3 : decide (till ≤ 100000) = false := decide_eq_false g3
      clear g3
      go_enter Tryd.func8, Tryd.ntmps8
      go_wp2_with fail
      refine calls_after (HAw.out _ (by (repeat' (first | (with_reducible exact Below.refl _ _) | (with_reducible assumption) | (with_reducible refine Below.alloc ?_ ?_ _) | (with_reducible refine Below.drew ?_) | (with_reducible refine below_drewN ?_ _) | (with_reducible refine Below.setCell ?_ ?_ _) | (with_reducible refine below_after ?_ ?_ _) | (with_reducible refine below_set ?_) | (with_reducible refine After.size_le _ ?_) | (with_reducible refine size_alloc_le ?_) | (with_reducible refine size_set_le ?_) | (with_reducible refine size_drewN_le ?_) | go_size)))) ?_
      intro x1
      go_wp2_with fail
      refine (P1.out _ x1.out).mono ?_
      rintro e w2 ⟨⟨v1, e1, rfl, hw1⟩, hb2⟩
      obtain ⟨x2, rfl⟩ : ∃ x : After w, w2 = x.w := ⟨⟨w2, x1.out.trans (hb2.mono x1.out.size)⟩, rfl⟩
      have W1 := Lib.hid hw1
      clear hb2 hw1 HAw
      go_wp2_with fail
      refine (R1.out _ x2.out).mono ?_
      rintro e w3 ⟨⟨v2, e2, rfl, hw2⟩, hb3⟩
      obtain ⟨x3, rfl⟩ : ∃ x : After w, w3 = x.w := ⟨⟨w3, x2.out.trans (hb3.mono x2.out.size)⟩, rfl⟩
      obtain ⟨q1, q2⟩ := WnS.one W1.out hw2
      subst q1 q2
      clear hb3 hw2 R1
      go_wp2_with fail
      refine calls_after2 (PV.out _ (by (repeat' (first | (with_reducible exact Below.refl _ _) | (with_reducible assumption) | (with_reducible refine Below.alloc ?_ ?_ _) | (with_reducible refine Below.drew ?_) | (with_reducible refine below_drewN ?_ _) | (with_reducible refine Below.setCell ?_ ?_ _) | (with_reducible refine below_after ?_ ?_ _) | (with_reducible refine below_set ?_) | (with_reducible refine After.size_le _ ?_) | (with_reducible refine size_alloc_le ?_) | (with_reducible refine size_set_le ?_) | (with_reducible refine size_drewN_le ?_) | go_size)))) ?_
      intro x3'
      go_wp2_with fail
      refine calls_after2 (RV.out _ (by (repeat' (first | (with_reducible exact Below.refl _ _) | (with_reducible assumption) | (with_reducible refine Below.alloc ?_ ?_ _) | (with_reducible refine Below.drew ?_) | (with_reducible refine below_drewN ?_ _) | (with_reducible refine Below.setCell ?_ ?_ _) | (with_reducible refine below_after ?_ ?_ _) | (with_reducible refine below_set ?_) | (with_reducible refine After.size_le _ ?_) | (with_reducible refine size_alloc_le ?_) | (with_reducible refine size_set_le ?_) | (with_reducible refine size_drewN_le ?_) | go_size)))) ?_
      intro x4
      clear PV RV
      go_wp2_with fail
      refine (P2.out _ (by (repeat' (first | (with_reducible exact Below.refl _ _) | (with_reducible assumption) | (with_reducible refine Below.alloc ?_ ?_ _) | (with_reducible refine Below.drew ?_) | (with_reducible refine below_drewN ?_ _) | (with_reducible refine Below.setCell ?_ ?_ _) | (with_reducible refine below_after ?_ ?_ _) | (with_reducible refine below_set ?_) | (with_reducible refine After.size_le _ ?_) | (with_reducible refine size_alloc_le ?_) | (with_reducible refine size_set_le ?_) | (with_reducible refine size_drewN_le ?_) | go_size)))).mono ?_
      rintro e w5 ⟨⟨v3, e3, rfl, hw3⟩, hb5⟩
      obtain ⟨x5, rfl⟩ : ∃ x : After w, w5 = x.w := ⟨⟨w5, (show Below w.heap.size w x4.w by (repeat' (first | (with_reducible exact Below.refl _ _) | (with_reducible assumption) | (with_reducible refine Below.alloc ?_ ?_ _) | (with_reducible refine Below.drew ?_) | (with_reducible refine below_drewN ?_ _) | (with_reducible refine Below.setCell ?_ ?_ _) | (with_reducible refine below_after ?_ ?_ _) | (with_reducible refine below_set ?_) | (with_reducible refine After.size_le _ ?_) | (with_reducible refine size_alloc_le ?_) | (with_reducible refine size_set_le ?_) | (with_reducible refine size_drewN_le ?_) | go_size))).trans (hb5.mono (show Below w.heap.size w x4.w by (repeat' (first | (with_reducible exact Below.refl _ _) | (with_reducible assumption) | (with_reducible refine Below.alloc ?_ ?_ _) | (with_reducible refine Below.drew ?_) | (with_reducible refine below_drewN ?_ _) | (with_reducible refine Below.setCell ?_ ?_ _) | (with_reducible refine below_after ?_ ?_ _) | (with_reducible refine below_set ?_) | (with_reducible refine After.size_le _ ?_) | (with_reducible refine size_alloc_le ?_) | (with_reducible refine size_set_le ?_) | (with_reducible refine size_drewN_le ?_) | go_size))).size)⟩, rfl⟩
      have W2 := Lib.hid hw3
      clear hb5 hw3 P2
      go_wp2_with fail
      refine (R2.out _ x5.out).mono ?_
      rintro e w6 ⟨⟨v4, e4, rfl, hw4⟩, hb6⟩
      obtain ⟨x6, rfl⟩ : ∃ x : After w, w6 = x.w := ⟨⟨w6, x5.out.trans (hb6.mono x5.out.size)⟩, rfl⟩
      obtain ⟨q3, q4⟩ := WnS.one W2.out hw4
      subst q3 q4
      clear hb6 hw4 R2
      by_cases he : e1 = 0
      case neg =>
        have bb1 : (e1 == 0) = false := beq_eq_false_iff_ne.2 he
        go_wp2_with fail
        refine (P3.out _ x6.out).mono ?_
        rintro e w7 ⟨⟨v, rfl, hv⟩, hb7⟩
        obtain ⟨va, vc, rfl, hvi⟩ := hv.in
        obtain ⟨x7, rfl⟩ : ∃ x : After w, w7 = x.w := ⟨⟨w7, x6.out.trans (hb7.mono x6.out.size)⟩, rfl⟩
        have HV7 := Lib.hid hvi
        clear hv hb7 hvi P3
        go_wp2_with fail
        refine (R3.out _ x7.out).mono ?_
        rintro e w8 ⟨⟨u, rfl, hu⟩, hb8⟩
        obtain ⟨ua, uc, rfl, hui⟩ := hu.in
        obtain ⟨x8, rfl⟩ : ∃ x : After w, w8 = x.w := ⟨⟨w8, x7.out.trans (hb8.mono x7.out.size)⟩, rfl⟩
        have HV8 := Lib.hid (HV7.out.on hb8)
        have HSc := Lib.hid (casts_any va ua _ vc uc _ _ _ _ x8.w HV8.out hui (by omega))
        clear hu hb8 R3 hui HV7
        go_wp2_with fail
        refine HSc.out.mono ?_
        rintro e w9 ⟨rfl, hb9⟩
        have HV9 := Lib.hid (HV8.out.on hb9)
        obtain ⟨x9, rfl⟩ : ∃ x : After w, w9 = x.w := ⟨⟨w9, x8.out.trans (hb9.mono x8.out.size)⟩, rfl⟩
        clear hb9 HSc HV8
        by_cases hc : GoodCs n fr to lo hi
        case neg =>
          have eE : mgE n fr to lo hi = 1 := by unfold mgE; rw [decide_eq_false hc]; rfl
          clear hc PX HV9
          generalize mgE n fr to lo hi = e0 at *
          subst eE
          go_wp2
          go_ret
          exact ⟨rfl, by (repeat' (first | (with_reducible exact Below.refl _ _) | (with_reducible assumption) | (with_reducible refine Below.alloc ?_ ?_ _) | (with_reducible refine Below.drew ?_) | (with_reducible refine below_drewN ?_ _) | (with_reducible refine Below.setCell ?_ ?_ _) | (with_reducible refine below_after ?_ ?_ _) | (with_reducible refine below_set ?_) | (with_reducible refine After.size_le _ ?_) | (with_reducible refine size_alloc_le ?_) | (with_reducible refine size_set_le ?_) | (with_reducible refine size_drewN_le ?_) | go_size))⟩
        have eE : mgE n fr to lo hi = 0 := by unfold mgE; rw [decide_eq_true hc]; rfl
        have eA : mgA n fr to lo hi = mgL fr to lo hi n := by unfold mgA; rw [decide_eq_true hc]; rfl
        rw [eA] at HV9 ⊢
        have hln := mgL_len (fr := fr) (to := to) (lo := lo) (hi := hi) n
        have HC := Lib.hid hc
        have HPX := Lib.hid (PX.out _ va _ vc _ _ _ _ HV9.out (by omega))
        clear hc PX HV9 eA
        generalize mgE n fr to lo hi = e0 at *
        subst eE
        go_wp2_with fail
        refine HPX.out.mono ?_
        rintro e w10 ⟨⟨v9, e9, rfl, hw9⟩, hb10⟩
        obtain ⟨q5, q6⟩ := W1.out.one (WnS.merged HC.out hw9)
        subst q5 q6
        obtain ⟨x10, rfl⟩ : ∃ x : After w, w10 = x.w := ⟨⟨w10, x9.out.trans (hb10.mono x9.out.size)⟩, rfl⟩
        clear hw9 hb10 HPX
        go_wp2
        go_ret
        exact ⟨by simp, by (repeat' (first | (with_reducible exact Below.refl _ _) | (with_reducible assumption) | (with_reducible refine Below.alloc ?_ ?_ _) | (with_reducible refine Below.drew ?_) | (with_reducible refine below_drewN ?_ _) | (with_reducible refine Below.setCell ?_ ?_ _) | (with_reducible refine below_after ?_ ?_ _) | (with_reducible refine below_set ?_) | (with_reducible refine After.size_le _ ?_) | (with_reducible refine size_alloc_le ?_) | (with_reducible refine size_set_le ?_) | (with_reducible refine size_drewN_le ?_) | go_size))⟩
      subst he
      obtain ⟨rfl, hle⟩ := W1.out.sub W2.out
      have bb2 : decide (v1 < v3) = false := decide_eq_false (by omega)
      go_wp2_with fail
      refine (P3.out _ x6.out).mono ?_
      rintro e w7 ⟨⟨v, rfl, hv⟩, hb7⟩
      obtain ⟨va, vc, rfl, hvi⟩ := hv.in
      obtain ⟨x7, rfl⟩ : ∃ x : After w, w7 = x.w := ⟨⟨w7, x6.out.trans (hb7.mono x6.out.size)⟩, rfl⟩
      have HV7 := Lib.hid hvi
      clear hv hb7 hvi P3
      go_wp2_with fail
      refine (R3.out _ x7.out).mono ?_
      rintro e w8 ⟨⟨u, rfl, hu⟩, hb8⟩
      obtain ⟨ua, uc, rfl, hui⟩ := hu.in
      obtain ⟨x8, rfl⟩ : ∃ x : After w, w8 = x.w := ⟨⟨w8, x7.out.trans (hb8.mono x7.out.size)⟩, rfl⟩
      have HV8 := Lib.hid (HV7.out.on hb8)
      have HSc := Lib.hid (casts_any va ua _ vc uc _ _ _ _ x8.w HV8.out hui (by omega))
      clear hu hb8 R3 hui HV7
      go_wp2_with fail
      refine HSc.out.mono ?_
      rintro e w9 ⟨rfl, hb9⟩
      have HV9 := Lib.hid (HV8.out.on hb9)
      obtain ⟨x9, rfl⟩ : ∃ x : After w, w9 = x.w := ⟨⟨w9, x8.out.trans (hb9.mono x8.out.size)⟩, rfl⟩
      clear hb9 HSc HV8
      by_cases hc : GoodCs n fr to lo hi
      case neg =>
        have eE : mgE n fr to lo hi = 1 := by unfold mgE; rw [decide_eq_false hc]; rfl
        clear hc PX HV9
        generalize mgE n fr to lo hi = e0 at *
        subst eE
        go_wp2
        go_ret
        exact ⟨rfl, by (repeat' (first | (with_reducible exact Below.refl _ _) | (with_reducible assumption) | (with_reducible refine Below.alloc ?_ ?_ _) | (with_reducible refine Below.drew ?_) | (with_reducible refine below_drewN ?_ _) | (with_reducible refine Below.setCell ?_ ?_ _) | (with_reducible refine below_after ?_ ?_ _) | (with_reducible refine below_set ?_) | (with_reducible refine After.size_le _ ?_) | (with_reducible refine size_alloc_le ?_) | (with_reducible refine size_set_le ?_) | (with_reducible refine size_drewN_le ?_) | go_size))⟩
      have eE : mgE n fr to lo hi = 0 := by unfold mgE; rw [decide_eq_true hc]; rfl
      have eA : mgA n fr to lo hi = mgL fr to lo hi n := by unfold mgA; rw [decide_eq_true hc]; rfl
      rw [eA] at HV9 ⊢
      have hln := mgL_len (fr := fr) (to := to) (lo := lo) (hi := hi) n
      have HC := Lib.hid hc
      have HPX := Lib.hid (PX.out _ va _ vc _ _ _ _ HV9.out (by omega))
      clear hc PX HV9 eA
      generalize mgE n fr to lo hi = e0 at *
      subst eE
      go_wp2_with fail
      refine HPX.out.mono ?_
      rintro e w10 ⟨⟨v9, e9, rfl, hw9⟩, hb10⟩
      obtain ⟨q5, q6⟩ := W1.out.one (WnS.merged HC.out hw9)
      subst q5 q6
      obtain ⟨x10, rfl⟩ : ∃ x : After w, w10 = x.w := ⟨⟨w10, x9.out.trans (hb10.mono x9.out.size)⟩, rfl⟩
      clear hw9 hb10 HPX
      go_wp2
      go_ret
      exact ⟨by simp, by (repeat' (first | (with_reducible exact Below.refl _ _) | (with_reducible assumption) | (with_reducible refine Below.alloc ?_ ?_ _) | (with_reducible refine Below.drew ?_) | (with_reducible refine below_drewN ?_ _) | (with_reducible refine Below.setCell ?_ ?_ _) | (with_reducible refine below_after ?_ ?_ _) | (with_reducible refine below_set ?_) | (with_reducible refine After.size_le _ ?_) | (with_reducible refine size_alloc_le ?_) | (with_reducible refine size_set_le ?_) | (with_reducible refine size_drewN_le ?_) | go_size))⟩
    have b3 : decide (till ≤ 100000) = true := decide_eq_true g3
    by_cases g4 : 600 < till - from'
    case neg =>
      have b4 : decide (600 < till - from') = false := decide_eq_false g4
      clear g4
      go_enter Tryd.func8, Tryd.ntmps8
      go_wp2_with fail
      refine calls_after (HAw.out _ (by (repeat' (first | (with_reducible exact Below.refl _ _) | (with_reducible assumption) | (with_reducible refine Below.alloc ?_ ?_ _) | (with_reducible refine Below.drew ?_) | (with_reducible refine below_drewN ?_ _) | (with_reducible refine Below.setCell ?_ ?_ _) | (with_reducible refine below_after ?_ ?_ _) | (with_reducible refine below_set ?_) | (with_reducible refine After.size_le _ ?_) | (with_reducible refine size_alloc_le ?_) | (with_reducible refine size_set_le ?_) | (with_reducible refine size_drewN_le ?_) | go_size)))) ?_
      intro x1
      go_wp2_with fail
      refine (P1.out _ x1.out).mono ?_
      rintro e w2 ⟨⟨v1, e1, rfl, hw1⟩, hb2⟩
      obtain ⟨x2, rfl⟩ : ∃ x : After w, w2 = x.w := ⟨⟨w2, x1.out.trans (hb2.mono x1.out.size)⟩, rfl⟩
      have W1 := Lib.hid hw1
      clear hb2 hw1 HAw
      go_wp2_with fail
      refine (R1.out _ x2.out).mono ?_
      rintro e w3 ⟨⟨v2, e2, rfl, hw2⟩, hb3⟩
      obtain ⟨x3, rfl⟩ : ∃ x : After w, w3 = x.w := ⟨⟨w3, x2.out.trans (hb3.mono x2.out.size)⟩, rfl⟩
      obtain ⟨q1, q2⟩ := WnS.one W1.out hw2
      subst q1 q2
      clear hb3 hw2 R1
      go_wp2_with fail
      refine calls_after2 (PV.out _ (by (repeat' (first | (with_reducible exact Below.refl _ _) | (with_reducible assumption) | (with_reducible refine Below.alloc ?_ ?_ _) | (with_reducible refine Below.drew ?_) | (with_reducible refine below_drewN ?_ _) | (with_reducible refine Below.setCell ?_ ?_ _) | (with_reducible refine below_after ?_ ?_ _) | (with_reducible refine below_set ?_) | (with_reducible refine After.size_le _ ?_) | (with_reducible refine size_alloc_le ?_) | (with_reducible refine size_set_le ?_) | (with_reducible refine size_drewN_le ?_) | go_size)))) ?_
      intro x3'
      go_wp2_with fail
      refine calls_after2 (RV.out _ (by (repeat' (first | (with_reducible exact Below.refl _ _) | (with_reducible assumption) | (with_reducible refine Below.alloc ?_ ?_ _) | (with_reducible refine Below.drew ?_) | (with_reducible refine below_drewN ?_ _) | (with_reducible refine Below.setCell ?_ ?_ _) | (with_reducible refine below_after ?_ ?_ _) | (with_reducible refine below_set ?_) | (with_reducible refine After.size_le _ ?_) | (with_reducible refine size_alloc_le ?_) | (with_reducible refine size_set_le ?_) | (with_reducible refine size_drewN_le ?_) | go_size)))) ?_
      intro x4
      clear PV RV
      go_wp2_with fail
      refine (P2.out _ (by (repeat' (first | (with_reducible exact Below.refl _ _) | (with_reducible assumption) | (with_reducible refine Below.alloc ?_ ?_ _) | (with_reducible refine Below.drew ?_) | (with_reducible refine below_drewN ?_ _) | (with_reducible refine Below.setCell ?_ ?_ _) | (with_reducible refine below_after ?_ ?_ _) | (with_reducible refine below_set ?_) | (with_reducible refine After.size_le _ ?_) | (with_reducible refine size_alloc_le ?_) | (with_reducible refine size_set_le ?_) | (with_reducible refine size_drewN_le ?_) | go_size)))).mono ?_
      rintro e w5 ⟨⟨v3, e3, rfl, hw3⟩, hb5⟩
      obtain ⟨x5, rfl⟩ : ∃ x : After w, w5 = x.w := ⟨⟨w5, (show Below w.heap.size w x4.w by (repeat' (first | (with_reducible exact Below.refl _ _) | (with_reducible assumption) | (with_reducible refine Below.alloc ?_ ?_ _) | (with_reducible refine Below.drew ?_) | (with_reducible refine below_drewN ?_ _) | (with_reducible refine Below.setCell ?_ ?_ _) | (with_reducible refine below_after ?_ ?_ _) | (with_reducible refine below_set ?_) | (with_reducible refine After.size_le _ ?_) | (with_reducible refine size_alloc_le ?_) | (with_reducible refine size_set_le ?_) | (with_reducible refine size_drewN_le ?_) | go_size))).trans (hb5.mono (show Below w.heap.size w x4.w by (repeat' (first | (with_reducible exact Below.refl _ _) | (with_reducible assumption) | (with_reducible refine Below.alloc ?_ ?_ _) | (with_reducible refine Below.drew ?_) | (with_reducible refine below_drewN ?_ _) | (with_reducible refine Below.setCell ?_ ?_ _) | (with_reducible refine below_after ?_ ?_ _) | (with_reducible refine below_set ?_) | (with_reducible refine After.size_le _ ?_) | (with_reducible refine size_alloc_le ?_) | (with_reducible refine size_set_le ?_) | (with_reducible refine size_drewN_le ?_) | go_size))).size)⟩, rfl⟩
      have W2 := Lib.hid hw3
      clear hb5 hw3 P2
      go_wp2_with fail
      refine (R2.out _ x5.out).mono ?_
      rintro e w6 ⟨⟨v4, e4, rfl, hw4⟩, hb6⟩
      obtain ⟨x6, rfl⟩ : ∃ x : After w, w6 = x.w := ⟨⟨w6, x5.out.trans (hb6.mono x5.out.size)⟩, rfl⟩
      obtain ⟨q3, q4⟩ := WnS.one W2.out hw4
      subst q3 q4
      clear hb6 hw4 R2
      by_cases he : e1 = 0
      case neg =>
        have bb1 : (e1 == 0) = false := beq_eq_false_iff_ne.2 he
        go_wp2_with fail
        refine (P3.out _ x6.out).mono ?_
        rintro e w7 ⟨⟨v, rfl, hv⟩, hb7⟩
        obtain ⟨va, vc, rfl, hvi⟩ := hv.in
        obtain ⟨x7, rfl⟩ : ∃ x : After w, w7 = x.w := ⟨⟨w7, x6.out.trans (hb7.mono x6.out.size)⟩, rfl⟩
        have HV7 := Lib.hid hvi
        clear hv hb7 hvi P3
        go_wp2_with fail
        refine (R3.out _ x7.out).mono ?_
        rintro e w8 ⟨⟨u, rfl, hu⟩, hb8⟩
        obtain ⟨ua, uc, rfl, hui⟩ := hu.in
        obtain ⟨x8, rfl⟩ : ∃ x : After w, w8 = x.w := ⟨⟨w8, x7.out.trans (hb8.mono x7.out.size)⟩, rfl⟩
        have HV8 := Lib.hid (HV7.out.on hb8)
        have HSc := Lib.hid (casts_any va ua _ vc uc _ _ _ _ x8.w HV8.out hui (by omega))
        clear hu hb8 R3 hui HV7
        go_wp2_with fail
        refine HSc.out.mono ?_
        rintro e w9 ⟨rfl, hb9⟩
        have HV9 := Lib.hid (HV8.out.on hb9)
        obtain ⟨x9, rfl⟩ : ∃ x : After w, w9 = x.w := ⟨⟨w9, x8.out.trans (hb9.mono x8.out.size)⟩, rfl⟩
        clear hb9 HSc HV8
        by_cases hc : GoodCs n fr to lo hi
        case neg =>
          have eE : mgE n fr to lo hi = 1 := by unfold mgE; rw [decide_eq_false hc]; rfl
          clear hc PX HV9
          generalize mgE n fr to lo hi = e0 at *
          subst eE
          go_wp2
          go_ret
          exact ⟨rfl, by (repeat' (first | (with_reducible exact Below.refl _ _) | (with_reducible assumption) | (with_reducible refine Below.alloc ?_ ?_ _) | (with_reducible refine Below.drew ?_) | (with_reducible refine below_drewN ?_ _) | (with_reducible refine Below.setCell ?_ ?_ _) | (with_reducible refine below_after ?_ ?_ _) | (with_reducible refine below_set ?_) | (with_reducible refine After.size_le _ ?_) | (with_reducible refine size_alloc_le ?_) | (with_reducible refine size_set_le ?_) | (with_reducible refine size_drewN_le ?_) | go_size))⟩
        have eE : mgE n fr to lo hi = 0 := by unfold mgE; rw [decide_eq_true hc]; rfl
        have eA : mgA n fr to lo hi = mgL fr to lo hi n := by unfold mgA; rw [decide_eq_true hc]; rfl
        rw [eA] at HV9 ⊢
        have hln := mgL_len (fr := fr) (to := to) (lo := lo) (hi := hi) n
        have HC := Lib.hid hc
        have HPX := Lib.hid (PX.out _ va _ vc _ _ _ _ HV9.out (by omega))
        clear hc PX HV9 eA
        generalize mgE n fr to lo hi = e0 at *
        subst eE
        go_wp2_with fail
        refine HPX.out.mono ?_
        rintro e w10 ⟨⟨v9, e9, rfl, hw9⟩, hb10⟩
        obtain ⟨q5, q6⟩ := W1.out.one (WnS.merged HC.out hw9)
        subst q5 q6
        obtain ⟨x10, rfl⟩ : ∃ x : After w, w10 = x.w := ⟨⟨w10, x9.out.trans (hb10.mono x9.out.size)⟩, rfl⟩
        clear hw9 hb10 HPX
        go_wp2
        go_ret
        exact ⟨by simp, by (repeat' (first | (with_reducible exact Below.refl _ _) | (with_reducible assumption) | (with_reducible refine Below.alloc ?_ ?_ _) | (with_reducible refine Below.drew ?_) | (with_reducible refine below_drewN ?_ _) | (with_reducible refine Below.setCell ?_ ?_ _) | (with_reducible refine below_after ?_ ?_ _) | (with_reducible refine below_set ?_) | (with_reducible refine After.size_le _ ?_) | (with_reducible refine size_alloc_le ?_) | (with_reducible refine size_set_le ?_) | (with_reducible refine size_drewN_le ?_) | go_size))⟩
      subst he
      obtain ⟨rfl, hle⟩ := W1.out.sub W2.out
      have bb2 : decide (v1 < v3) = false := decide_eq_false (by omega)
      go_wp2_with fail
      refine (P3.out _ x6.out).mono ?_
      rintro e w7 ⟨⟨v, rfl, hv⟩, hb7⟩
      obtain ⟨va, vc, rfl, hvi⟩ := hv.in
      obtain ⟨x7, rfl⟩ : ∃ x : After w, w7 = x.w := ⟨⟨w7, x6.out.trans (hb7.mono x6.out.size)⟩, rfl⟩
      have HV7 := Lib.hid hvi
      clear hv hb7 hvi P3
      go_wp2_with fail
      refine (R3.out _ x7.out).mono ?_
      rintro e w8 ⟨⟨u, rfl, hu⟩, hb8⟩
      obtain ⟨ua, uc, rfl, hui⟩ := hu.in
      obtain ⟨x8, rfl⟩ : ∃ x : After w, w8 = x.w := ⟨⟨w8, x7.out.trans (hb8.mono x7.out.size)⟩, rfl⟩
      have HV8 := Lib.hid (HV7.out.on hb8)
      have HSc := Lib.hid (casts_any va ua _ vc uc _ _ _ _ x8.w HV8.out hui (by omega))
      clear hu hb8 R3 hui HV7
      go_wp2_with fail
      refine HSc.out.mono ?_
      rintro e w9 ⟨rfl, hb9⟩
      have HV9 := Lib.hid (HV8.out.on hb9)
      obtain ⟨x9, rfl⟩ : ∃ x : After w, w9 = x.w := ⟨⟨w9, x8.out.trans (hb9.mono x8.out.size)⟩, rfl⟩
      clear hb9 HSc HV8
      by_cases hc : GoodCs n fr to lo hi
      case neg =>
        have eE : mgE n fr to lo hi = 1 := by unfold mgE; rw [decide_eq_false hc]; rfl
        clear hc PX HV9
        generalize mgE n fr to lo hi = e0 at *
        subst eE
        go_wp2
        go_ret
        exact ⟨rfl, by (repeat' (first | (with_reducible exact Below.refl _ _) | (with_reducible assumption) | (with_reducible refine Below.alloc ?_ ?_ _) | (with_reducible refine Below.drew ?_) | (with_reducible refine below_drewN ?_ _) | (with_reducible refine Below.setCell ?_ ?_ _) | (with_reducible refine below_after ?_ ?_ _) | (with_reducible refine below_set ?_) | (with_reducible refine After.size_le _ ?_) | (with_reducible refine size_alloc_le ?_) | (with_reducible refine size_set_le ?_) | (with_reducible refine size_drewN_le ?_) | go_size))⟩
      have eE : mgE n fr to lo hi = 0 := by unfold mgE; rw [decide_eq_true hc]; rfl
      have eA : mgA n fr to lo hi = mgL fr to lo hi n := by unfold mgA; rw [decide_eq_true hc]; rfl
      rw [eA] at HV9 ⊢
      have hln := mgL_len (fr := fr) (to := to) (lo := lo) (hi := hi) n
      have HC := Lib.hid hc
      have HPX := Lib.hid (PX.out _ va _ vc _ _ _ _ HV9.out (by omega))
      clear hc PX HV9 eA
      generalize mgE n fr to lo hi = e0 at *
      subst eE
      go_wp2_with fail
      refine HPX.out.mono ?_
      rintro e w10 ⟨⟨v9, e9, rfl, hw9⟩, hb10⟩
      obtain ⟨q5, q6⟩ := W1.out.one (WnS.merged HC.out hw9)
      subst q5 q6
      obtain ⟨x10, rfl⟩ : ∃ x : After w, w10 = x.w := ⟨⟨w10, x9.out.trans (hb10.mono x9.out.size)⟩, rfl⟩
      clear hw9 hb10 HPX
      go_wp2
      go_ret
      exact ⟨by simp, by (repeat' (first | (with_reducible exact Below.refl _ _) | (with_reducible assumption) | (with_reducible refine Below.alloc ?_ ?_ _) | (with_reducible refine Below.drew ?_) | (with_reducible refine below_drewN ?_ _) | (with_reducible refine Below.setCell ?_ ?_ _) | (with_reducible refine below_after ?_ ?_ _) | (with_reducible refine below_set ?_) | (with_reducible refine After.size_le _ ?_) | (with_reducible refine size_alloc_le ?_) | (with_reducible refine size_set_le ?_) | (with_reducible refine size_drewN_le ?_) | go_size))⟩
    have b4 : decide (600 < till - from') = true := decide_eq_true g4
    go_enter Tryd.func8, Tryd.ntmps8
    go_wp2_with fail
    refine calls_after (HAw.out _ (by (repeat' (first | (with_reducible exact Below.refl _ _) | (with_reducible assumption) | (with_reducible refine Below.alloc ?_ ?_ _) | (with_reducible refine Below.drew ?_) | (with_reducible refine below_drewN ?_ _) | (with_reducible refine Below.setCell ?_ ?_ _) | (with_reducible refine below_after ?_ ?_ _) | (with_reducible refine below_set ?_) | (with_reducible refine After.size_le _ ?_) | (with_reducible refine size_alloc_le ?_) | (with_reducible refine size_set_le ?_) | (with_reducible refine size_drewN_le ?_) | go_size)))) ?_
    intro x1
    go_wp2_with fail
    go_ret
    exact ⟨rfl, by (repeat' (first | (with_reducible exact Below.refl _ _) | (with_reducible assumption) | (with_reducible refine Below.alloc ?_ ?_ _) | (with_reducible refine Below.drew ?_) | (with_reducible refine below_drewN ?_ _) | (with_reducible refine Below.setCell ?_ ?_ _) | (with_reducible refine below_after ?_ ?_ _) | (with_reducible refine below_set ?_) | (with_reducible refine After.size_le _ ?_) | (with_reducible refine size_alloc_le ?_) | (with_reducible refine size_set_le ?_) | (with_reducible refine size_drewN_le ?_) | go_size))⟩
  have d30 : decide ((30 : Int) < (n : Int)) = false := decide_eq_false h30
  have d220 : decide ((220 : Int) < (n : Int)) = false := decide_eq_false (by omega)
  by_cases g1 : 0 ≤ from'
  case neg =>
    have b1 : decide (0 ≤ from') = false := decide_eq_false g1
    clear g1
    go_enter Tryd.func8, Tryd.ntmps8
    go_wp2_with fail
    refine calls_after (HAw.out _ (by (repeat' (first | (with_reducible exact Below.refl _ _) | (with_reducible assumption) | (with_reducible refine Below.alloc ?_ ?_ _) | (with_reducible refine Below.drew ?_) | (with_reducible refine below_drewN ?_ _) | (with_reducible refine Below.setCell ?_ ?_ _) | (with_reducible refine below_after ?_ ?_ _) | (with_reducible refine below_set ?_) | (with_reducible refine After.size_le _ ?_) | (with_reducible refine size_alloc_le ?_) | (with_reducible refine size_set_le ?_) | (with_reducible refine size_drewN_le ?_) | go_size)))) ?_
    intro x1
    go_wp2_with fail
    refine (P1.out _ x1.out).mono ?_
    rintro e w2 ⟨⟨v1, e1, rfl, hw1⟩, hb2⟩
    obtain ⟨x2, rfl⟩ : ∃ x : After w, w2 = x.w := ⟨⟨w2, x1.out.trans (hb2.mono x1.out.size)⟩, rfl⟩
    have W1 := Lib.hid hw1
    clear hb2 hw1 HAw
    go_wp2_with fail
    refine (R1.out _ x2.out).mono ?_
    rintro e w3 ⟨⟨v2, e2, rfl, hw2⟩, hb3⟩
    obtain ⟨x3, rfl⟩ : ∃ x : After w, w3 = x.w := ⟨⟨w3, x2.out.trans (hb3.mono x2.out.size)⟩, rfl⟩
    obtain ⟨q1, q2⟩ := WnS.one W1.out hw2
    subst q1 q2
    clear hb3 hw2 R1
    go_wp2_with fail
    refine calls_after2 (PV.out _ (by (repeat' (first | (with_reducible exact Below.refl _ _) | (with_reducible assumption) | (with_reducible refine Below.alloc ?_ ?_ _) | (with_reducible refine Below.drew ?_) | (with_reducible refine below_drewN ?_ _) | (with_reducible refine Below.setCell ?_ ?_ _) | (with_reducible refine below_after ?_ ?_ _) | (with_reducible refine below_set ?_) | (with_reducible refine After.size_le _ ?_) | (with_reducible refine size_alloc_le ?_) | (with_reducible refine size_set_le ?_) | (with_reducible refine size_drewN_le ?_) | go_size)))) ?_
    intro x3'
    go_wp2_with fail
    refine calls_after2 (RV.out _ (by (repeat' (first | (with_reducible exact Below.refl _ _) | (with_reducible assumption) | (with_reducible refine Below.alloc ?_ ?_ _) | (with_reducible refine Below.drew ?_) | (with_reducible refine below_drewN ?_ _) | (with_reducible refine Below.setCell ?_ ?_ _) | (with_reducible refine below_after ?_ ?_ _) | (with_reducible refine below_set ?_) | (with_reducible refine After.size_le _ ?_) | (with_reducible refine size_alloc_le ?_) | (with_reducible refine size_set_le ?_) | (with_reducible refine size_drewN_le ?_) | go_size)))) ?_
    intro x4
    clear PV RV
    go_wp2_with fail
    refine (P2.out _ (by (repeat' (first | (with_reducible exact Below.refl _ _) | (with_reducible assumption) | (with_reducible refine Below.alloc ?_ ?_ _) | (with_reducible refine Below.drew ?_) | (with_reducible refine below_drewN ?_ _) | (with_reducible refine Below.setCell ?_ ?_ _) | (with_reducible refine below_after ?_ ?_ _) | (with_reducible refine below_set ?_) | (with_reducible refine After.size_le _ ?_) | (with_reducible refine size_alloc_le ?_) | (with_reducible refine size_set_le ?_) | (with_reducible refine size_drewN_le ?_) | go_size)))).mono ?_
    rintro e w5 ⟨⟨v3, e3, rfl, hw3⟩, hb5⟩
    obtain ⟨x5, rfl⟩ : ∃ x : After w, w5 = x.w := ⟨⟨w5, (show Below w.heap.size w x4.w by (repeat' (first | (with_reducible exact Below.refl _ _) | (with_reducible assumption) | (with_reducible refine Below.alloc ?_ ?_ _) | (with_reducible refine Below.drew ?_) | (with_reducible refine below_drewN ?_ _) | (with_reducible refine Below.setCell ?_ ?_ _) | (with_reducible refine below_after ?_ ?_ _) | (with_reducible refine below_set ?_) | (with_reducible refine After.size_le _ ?_) | (with_reducible refine size_alloc_le ?_) | (with_reducible refine size_set_le ?_) | (with_reducible refine size_drewN_le ?_) | go_size))).trans (hb5.mono (show Below w.heap.size w x4.w by (repeat' (first | (with_reducible exact Below.refl _ _) | (with_reducible assumption) | (with_reducible refine Below.alloc ?_ ?_ _) | (with_reducible refine Below.drew ?_) | (with_reducible refine below_drewN ?_ _) | (with_reducible refine Below.setCell ?_ ?_ _) | (with_reducible refine below_after ?_ ?_ _) | (with_reducible refine below_set ?_) | (with_reducible refine After.size_le _ ?_) | (with_reducible refine size_alloc_le ?_) | (with_reducible refine size_set_le ?_) | (with_reducible refine size_drewN_le ?_) | go_size))).size)⟩, rfl⟩
    have W2 := Lib.hid hw3
    clear hb5 hw3 P2
    go_wp2_with fail
    refine (R2.out _ x5.out).mono ?_
    rintro e w6 ⟨⟨v4, e4, rfl, hw4⟩, hb6⟩
    obtain ⟨x6, rfl⟩ : ∃ x : After w, w6 = x.w := ⟨⟨w6, x5.out.trans (hb6.mono x5.out.size)⟩, rfl⟩
    obtain ⟨q3, q4⟩ := WnS.one W2.out hw4
    subst q3 q4
    clear hb6 hw4 R2
    by_cases he : e1 = 0
    case neg =>
      have bb1 : (e1 == 0) = false := beq_eq_false_iff_ne.2 he
      go_wp2_with fail
      refine (P3.out _ x6.out).mono ?_
      rintro e w7 ⟨⟨v, rfl, hv⟩, hb7⟩
      obtain ⟨va, vc, rfl, hvi⟩ := hv.in
      obtain ⟨x7, rfl⟩ : ∃ x : After w, w7 = x.w := ⟨⟨w7, x6.out.trans (hb7.mono x6.out.size)⟩, rfl⟩
      have HV7 := Lib.hid hvi
      clear hv hb7 hvi P3
      go_wp2_with fail
      refine (R3.out _ x7.out).mono ?_
      rintro e w8 ⟨⟨u, rfl, hu⟩, hb8⟩
      obtain ⟨ua, uc, rfl, hui⟩ := hu.in
      obtain ⟨x8, rfl⟩ : ∃ x : After w, w8 = x.w := ⟨⟨w8, x7.out.trans (hb8.mono x7.out.size)⟩, rfl⟩
      have HV8 := Lib.hid (HV7.out.on hb8)
      have HSc := Lib.hid (casts_any va ua _ vc uc _ _ _ _ x8.w HV8.out hui (by omega))
      clear hu hb8 R3 hui HV7
      go_wp2_with fail
      refine HSc.out.mono ?_
      rintro e w9 ⟨rfl, hb9⟩
      have HV9 := Lib.hid (HV8.out.on hb9)
      obtain ⟨x9, rfl⟩ : ∃ x : After w, w9 = x.w := ⟨⟨w9, x8.out.trans (hb9.mono x8.out.size)⟩, rfl⟩
      clear hb9 HSc HV8
      by_cases hc : GoodCs n fr to lo hi
      case neg =>
        have eE : mgE n fr to lo hi = 1 := by unfold mgE; rw [decide_eq_false hc]; rfl
        clear hc PX HV9
        generalize mgE n fr to lo hi = e0 at *
        subst eE
        go_wp2
        go_ret
        exact ⟨rfl, by (repeat' (first | (with_reducible exact Below.refl _ _) | (with_reducible assumption) | (with_reducible refine Below.alloc ?_ ?_ _) | (with_reducible refine Below.drew ?_) | (with_reducible refine below_drewN ?_ _) | (with_reducible refine Below.setCell ?_ ?_ _) | (with_reducible refine below_after ?_ ?_ _) | (with_reducible refine below_set ?_) | (with_reducible refine After.size_le _ ?_) | (with_reducible refine size_alloc_le ?_) | (with_reducible refine size_set_le ?_) | (with_reducible refine size_drewN_le ?_) | go_size))⟩
      have eE : mgE n fr to lo hi = 0 := by unfold mgE; rw [decide_eq_true hc]; rfl
      have eA : mgA n fr to lo hi = mgL fr to lo hi n := by unfold mgA; rw [decide_eq_true hc]; rfl
      rw [eA] at HV9 ⊢
      have hln := mgL_len (fr := fr) (to := to) (lo := lo) (hi := hi) n
      have HC := Lib.hid hc
      have HPX := Lib.hid (PX.out _ va _ vc _ _ _ _ HV9.out (by omega))
      clear hc PX HV9 eA
      generalize mgE n fr to lo hi = e0 at *
      subst eE
      go_wp2_with fail
      refine HPX.out.mono ?_
      rintro e w10 ⟨⟨v9, e9, rfl, hw9⟩, hb10⟩
      obtain ⟨q5, q6⟩ := W1.out.one (WnS.merged HC.out hw9)
      subst q5 q6
      obtain ⟨x10, rfl⟩ : ∃ x : After w, w10 = x.w := ⟨⟨w10, x9.out.trans (hb10.mono x9.out.size)⟩, rfl⟩
      clear hw9 hb10 HPX
      go_wp2
      go_ret
      exact ⟨by simp, by (repeat' (first | (with_reducible exact Below.refl _ _) | (with_reducible assumption) | (with_reducible refine Below.alloc ?_ ?_ _) | (with_reducible refine Below.drew ?_) | (with_reducible refine below_drewN ?_ _) | (with_reducible refine Below.setCell ?_ ?_ _) | (with_reducible refine below_after ?_ ?_ _) | (with_reducible refine below_set ?_) | (with_reducible refine After.size_le _ ?_) | (with_reducible refine size_alloc_le ?_) | (with_reducible refine size_set_le ?_) | (with_reducible refine size_drewN_le ?_) | go_size))⟩
    subst he
    obtain ⟨rfl, hle⟩ := W1.out.sub W2.out
    have bb2 : decide (v1 < v3) = false := decide_eq_false (by omega)
    go_wp2_with fail
    refine (P3.out _ x6.out).mono ?_
    rintro e w7 ⟨⟨v, rfl, hv⟩, hb7⟩
    obtain ⟨va, vc, rfl, hvi⟩ := hv.in
    obtain ⟨x7, rfl⟩ : ∃ x : After w, w7 = x.w := ⟨⟨w7, x6.out.trans (hb7.mono x6.out.size)⟩, rfl⟩
    have HV7 := Lib.hid hvi
    clear hv hb7 hvi P3
    go_wp2_with fail
    refine (R3.out _ x7.out).mono ?_
    rintro e w8 ⟨⟨u, rfl, hu⟩, hb8⟩
    obtain ⟨ua, uc, rfl, hui⟩ := hu.in
    obtain ⟨x8, rfl⟩ : ∃ x : After w, w8 = x.w := ⟨⟨w8, x7.out.trans (hb8.mono x7.out.size)⟩, rfl⟩
    have HV8 := Lib.hid (HV7.out.on hb8)
    have HSc := Lib.hid (casts_any va ua _ vc uc _ _ _ _ x8.w HV8.out hui (by omega))
    clear hu hb8 R3 hui HV7
    go_wp2_with fail
    refine HSc.out.mono ?_
    rintro e w9 ⟨rfl, hb9⟩
    have HV9 := Lib.hid (HV8.out.on hb9)
    obtain ⟨x9, rfl⟩ : ∃ x : After w, w9 = x.w := ⟨⟨w9, x8.out.trans (hb9.mono x8.out.size)⟩, rfl⟩
    clear hb9 HSc HV8
    by_cases hc : GoodCs n fr to lo hi
    case neg =>
      have eE : mgE n fr to lo hi = 1 := by unfold mgE; rw [decide_eq_false hc]; rfl
      clear hc PX HV9
      generalize mgE n fr to lo hi = e0 at *
      subst eE
      go_wp2
      go_ret
      exact ⟨rfl, by (repeat' (first | (with_reducible exact Below.refl _ _) | (with_reducible assumption) | (with_reducible refine Below.alloc ?_ ?_ _) | (with_reducible refine Below.drew ?_) | (with_reducible refine below_drewN ?_ _) | (with_reducible refine Below.setCell ?_ ?_ _) | (with_reducible refine below_after ?_ ?_ _) | (with_reducible refine below_set ?_) | (with_reducible refine After.size_le _ ?_) | (with_reducible refine size_alloc_le ?_) | (with_reducible refine size_set_le ?_) | (with_reducible refine size_drewN_le ?_) | go_size))⟩
    have eE : mgE n fr to lo hi = 0 := by unfold mgE; rw [decide_eq_true hc]; rfl
    have eA : mgA n fr to lo hi = mgL fr to lo hi n := by unfold mgA; rw [decide_eq_true hc]; rfl
    rw [eA] at HV9 ⊢
    have hln := mgL_len (fr := fr) (to := to) (lo := lo) (hi := hi) n
    have HC := Lib.hid hc
    have HPX := Lib.hid (PX.out _ va _ vc _ _ _ _ HV9.out (by omega))
    clear hc PX HV9 eA
    generalize mgE n fr to lo hi = e0 at *
    subst eE
    go_wp2_with fail
    refine HPX.out.mono ?_
    rintro e w10 ⟨⟨v9, e9, rfl, hw9⟩, hb10⟩
    obtain ⟨q5, q6⟩ := W1.out.one (WnS.merged HC.out hw9)
    subst q5 q6
    obtain ⟨x10, rfl⟩ : ∃ x : After w, w10 = x.w := ⟨⟨w10, x9.out.trans (hb10.mono x9.out.size)⟩, rfl⟩
    clear hw9 hb10 HPX
    go_wp2
    go_ret
    exact ⟨by simp, by (repeat' (first | (with_reducible exact Below.refl _ _) | (with_reducible assumption) | (with_reducible refine Below.alloc ?_ ?_ _) | (with_reducible refine Below.drew ?_) | (with_reducible refine below_drewN ?_ _) | (with_reducible refine Below.setCell ?_ ?_ _) | (with_reducible refine below_after ?_ ?_ _) | (with_reducible refine below_set ?_) | (with_reducible refine After.size_le _ ?_) | (with_reducible refine size_alloc_le ?_) | (with_reducible refine size_set_le ?_) | (with_reducible refine size_drewN_le ?_) | go_size))⟩
  have b1 : decide (0 ≤ from') = true := decide_eq_true g1
  by_cases g2 : from' ≤ till
  case neg =>
    have b2 : decide (from' ≤ till) = false := decide_eq_false g2
    clear g2
    go_enter Tryd.func8, Tryd.ntmps8
    go_wp2_with fail
    refine calls_after (HAw.out _ (by (repeat' (first | (with_reducible exact Below.refl _ _) | (with_reducible assumption) | (with_reducible refine Below.alloc ?_ ?_ _) | (with_reducible refine Below.drew ?_) | (with_reducible refine below_drewN ?_ _) | (with_reducible refine Below.setCell ?_ ?_ _) | (with_reducible refine below_after ?_ ?_ _) | (with_reducible refine below_set ?_) | (with_reducible refine After.size_le _ ?_) | (with_reducible refine size_alloc_le ?_) | (with_reducible refine size_set_le ?_) | (with_reducible refine size_drewN_le ?_) | go_size)))) ?_
    intro x1
    go_wp2_with fail
    refine (P1.out _ x1.out).mono ?_
    rintro e w2 ⟨⟨v1, e1, rfl, hw1⟩, hb2⟩
    obtain ⟨x2, rfl⟩ : ∃ x : After w, w2 = x.w := ⟨⟨w2, x1.out.trans (hb2.mono x1.out.size)⟩, rfl⟩
    have W1 := Lib.hid hw1
    clear hb2 hw1 HAw
    go_wp2_with fail
    refine (R1.out _ x2.out).mono ?_
    rintro e w3 ⟨⟨v2, e2, rfl, hw2⟩, hb3⟩
    obtain ⟨x3, rfl⟩ : ∃ x : After w, w3 = x.w := ⟨⟨w3, x2.out.trans (hb3.mono x2.out.size)⟩, rfl⟩
    obtain ⟨q1, q2⟩ := WnS.one W1.out hw2
    subst q1 q2
    clear hb3 hw2 R1
    go_wp2_with fail
    refine calls_after2 (PV.out _ (by (repeat' (first | (with_reducible exact Below.refl _ _) | (with_reducible assumption) | (with_reducible refine Below.alloc ?_ ?_ _) | (with_reducible refine Below.drew ?_) | (with_reducible refine below_drewN ?_ _) | (with_reducible refine Below.setCell ?_ ?_ _) | (with_reducible refine below_after ?_ ?_ _) | (with_reducible refine below_set ?_) | (with_reducible refine After.size_le _ ?_) | (with_reducible refine size_alloc_le ?_) | (with_reducible refine size_set_le ?_) | (with_reducible refine size_drewN_le ?_) | go_size)))) ?_
    intro x3'
    go_wp2_with fail
    refine calls_after2 (RV.out _ (by (repeat' (first | (with_reducible exact Below.refl _ _) | (with_reducible assumption) | (with_reducible refine Below.alloc ?_ ?_ _) | (with_reducible refine Below.drew ?_) | (with_reducible refine below_drewN ?_ _) | (with_reducible refine Below.setCell ?_ ?_ _) | (with_reducible refine below_after ?_ ?_ _) | (with_reducible refine below_set ?_) | (with_reducible refine After.size_le _ ?_) | (with_reducible refine size_alloc_le ?_) | (with_reducible refine size_set_le ?_) | (with_reducible refine size_drewN_le ?_) | go_size)))) ?_
    intro x4
    clear PV RV
    go_wp2_with fail
    refine (P2.out _ (by (repeat' (first | (with_reducible exact Below.refl _ _) | (with_reducible assumption) | (with_reducible refine Below.alloc ?_ ?_ _) | (with_reducible refine Below.drew ?_) | (with_reducible refine below_drewN ?_ _) | (with_reducible refine Below.setCell ?_ ?_ _) | (with_reducible refine below_after ?_ ?_ _) | (with_reducible refine below_set ?_) | (with_reducible refine After.size_le _ ?_) | (with_reducible refine size_alloc_le ?_) | (with_reducible refine size_set_le ?_) | (with_reducible refine size_drewN_le ?_) | go_size)))).mono ?_
    rintro e w5 ⟨⟨v3, e3, rfl, hw3⟩, hb5⟩
    obtain ⟨x5, rfl⟩ : ∃ x : After w, w5 = x.w := ⟨⟨w5, (show Below w.heap.size w x4.w by (repeat' (first | (with_reducible exact Below.refl _ _) | (with_reducible assumption) | (with_reducible refine Below.alloc ?_ ?_ _) | (with_reducible refine Below.drew ?_) | (with_reducible refine below_drewN ?_ _) | (with_reducible refine Below.setCell ?_ ?_ _) | (with_reducible refine below_after ?_ ?_ _) | (with_reducible refine below_set ?_) | (with_reducible refine After.size_le _ ?_) | (with_reducible refine size_alloc_le ?_) | (with_reducible refine size_set_le ?_) | (with_reducible refine size_drewN_le ?_) | go_size))).trans (hb5.mono (show Below w.heap.size w x4.w by (repeat' (first | (with_reducible exact Below.refl _ _) | (with_reducible assumption) | (with_reducible refine Below.alloc ?_ ?_ _) | (with_reducible refine Below.drew ?_) | (with_reducible refine below_drewN ?_ _) | (with_reducible refine Below.setCell ?_ ?_ _) | (with_reducible refine below_after ?_ ?_ _) | (with_reducible refine below_set ?_) | (with_reducible refine After.size_le _ ?_) | (with_reducible refine size_alloc_le ?_) | (with_reducible refine size_set_le ?_) | (with_reducible refine size_drewN_le ?_) | go_size))).size)⟩, rfl⟩
    have W2 := Lib.hid hw3
    clear hb5 hw3 P2
    go_wp2_with fail
    refine (R2.out _ x5.out).mono ?_
    rintro e w6 ⟨⟨v4, e4, rfl, hw4⟩, hb6⟩
    obtain ⟨x6, rfl⟩ : ∃ x : After w, w6 = x.w := ⟨⟨w6, x5.out.trans (hb6.mono x5.out.size)⟩, rfl⟩
    obtain ⟨q3, q4⟩ := WnS.one W2.out hw4
    subst q3 q4
    clear hb6 hw4 R2
    by_cases he : e1 = 0
    case neg =>
      have bb1 : (e1 == 0) = false := beq_eq_false_iff_ne.2 he
      go_wp2_with fail
      refine (P3.out _ x6.out).mono ?_
      rintro e w7 ⟨⟨v, rfl, hv⟩, hb7⟩
      obtain ⟨va, vc, rfl, hvi⟩ := hv.in
      obtain ⟨x7, rfl⟩ : ∃ x : After w, w7 = x.w := ⟨⟨w7, x6.out.trans (hb7.mono x6.out.size)⟩, rfl⟩
      have HV7 := Lib.hid hvi
      clear hv hb7 hvi P3
      go_wp2_with fail
      refine (R3.out _ x7.out).mono ?_
      rintro e w8 ⟨⟨u, rfl, hu⟩, hb8⟩
      obtain ⟨ua, uc, rfl, hui⟩ := hu.in
      obtain ⟨x8, rfl⟩ : ∃ x : After w, w8 = x.w := ⟨⟨w8, x7.out.trans (hb8.mono x7.out.size)⟩, rfl⟩
      have HV8 := Lib.hid (HV7.out.on hb8)
      have HSc := Lib.hid (casts_any va ua _ vc uc _ _ _ _ x8.w HV8.out hui (by omega))
      clear hu hb8 R3 hui HV7
      go_wp2_with fail
      refine HSc.out.mono ?_
      rintro e w9 ⟨rfl, hb9⟩
      have HV9 := Lib.hid (HV8.out.on hb9)
      obtain ⟨x9, rfl⟩ : ∃ x : After w, w9 = x.w := ⟨⟨w9, x8.out.trans (hb9.mono x8.out.size)⟩, rfl⟩
      clear hb9 HSc HV8
      by_cases hc : GoodCs n fr to lo hi
      case neg =>
        have eE : mgE n fr to lo hi = 1 := by unfold mgE; rw [decide_eq_false hc]; rfl
        clear hc PX HV9
        generalize mgE n fr to lo hi = e0 at *
        subst eE
        go_wp2
        go_ret
        exact ⟨rfl, by (repeat' (first | (with_reducible exact Below.refl _ _) | (with_reducible assumption) | (with_reducible refine Below.alloc ?_ ?_ _) | (with_reducible refine Below.drew ?_) | (with_reducible refine below_drewN ?_ _) | (with_reducible refine Below.setCell ?_ ?_ _) | (with_reducible refine below_after ?_ ?_ _) | (with_reducible refine below_set ?_) | (with_reducible refine After.size_le _ ?_) | (with_reducible refine size_alloc_le ?_) | (with_reducible refine size_set_le ?_) | (with_reducible refine size_drewN_le ?_) | go_size))⟩
      have eE : mgE n fr to lo hi = 0 := by unfold mgE; rw [decide_eq_true hc]; rfl
      have eA : mgA n fr to lo hi = mgL fr to lo hi n := by unfold mgA; rw [decide_eq_true hc]; rfl
      rw [eA] at HV9 ⊢
      have hln := mgL_len (fr := fr) (to := to) (lo := lo) (hi := hi) n
      have HC := Lib.hid hc
      have HPX := Lib.hid (PX.out _ va _ vc _ _ _ _ HV9.out (by omega))
      clear hc PX HV9 eA
      generalize mgE n fr to lo hi = e0 at *
      subst eE
      go_wp2_with fail
      refine HPX.out.mono ?_
      rintro e w10 ⟨⟨v9, e9, rfl, hw9⟩, hb10⟩
      obtain ⟨q5, q6⟩ := W1.out.one (WnS.merged HC.out hw9)
      subst q5 q6
      obtain ⟨x10, rfl⟩ : ∃ x : After w, w10 = x.w := ⟨⟨w10, x9.out.trans (hb10.mono x9.out.size)⟩, rfl⟩
      clear hw9 hb10 HPX
      go_wp2
      go_ret
      exact ⟨by simp, by (repeat' (first | (with_reducible exact Below.refl _ _) | (with_reducible assumption) | (with_reducible refine Below.alloc ?_ ?_ _) | (with_reducible refine Below.drew ?_) | (with_reducible refine below_drewN ?_ _) | (with_reducible refine Below.setCell ?_ ?_ _) | (with_reducible refine below_after ?_ ?_ _) | (with_reducible refine below_set ?_) | (with_reducible refine After.size_le _ ?_) | (with_reducible refine size_alloc_le ?_) | (with_reducible refine size_set_le ?_) | (with_reducible refine size_drewN_le ?_) | go_size))⟩
    subst he
    obtain ⟨rfl, hle⟩ := W1.out.sub W2.out
    have bb2 : decide (v1 < v3) = false := decide_eq_false (by omega)
    go_wp2_with fail
    refine (P3.out _ x6.out).mono ?_
    rintro e w7 ⟨⟨v, rfl, hv⟩, hb7⟩
    obtain ⟨va, vc, rfl, hvi⟩ := hv.in
    obtain ⟨x7, rfl⟩ : ∃ x : After w, w7 = x.w := ⟨⟨w7, x6.out.trans (hb7.mono x6.out.size)⟩, rfl⟩
    have HV7 := Lib.hid hvi
    clear hv hb7 hvi P3
    go_wp2_with fail
    refine (R3.out _ x7.out).mono ?_
    rintro e w8 ⟨⟨u, rfl, hu⟩, hb8⟩
    obtain ⟨ua, uc, rfl, hui⟩ := hu.in
    obtain ⟨x8, rfl⟩ : ∃ x : After w, w8 = x.w := ⟨⟨w8, x7.out.trans (hb8.mono x7.out.size)⟩, rfl⟩
    have HV8 := Lib.hid (HV7.out.on hb8)
    have HSc := Lib.hid (casts_any va ua _ vc uc _ _ _ _ x8.w HV8.out hui (by omega))
    clear hu hb8 R3 hui HV7
    go_wp2_with fail
    refine HSc.out.mono ?_
    rintro e w9 ⟨rfl, hb9⟩
    have HV9 := Lib.hid (HV8.out.on hb9)
    obtain ⟨x9, rfl⟩ : ∃ x : After w, w9 = x.w := ⟨⟨w9, x8.out.trans (hb9.mono x8.out.size)⟩, rfl⟩
    clear hb9 HSc HV8
    by_cases hc : GoodCs n fr to lo hi
    case neg =>
      have eE : mgE n fr to lo hi = 1 := by unfold mgE; rw [decide_eq_false hc]; rfl
      clear hc PX HV9
      generalize mgE n fr to lo hi = e0 at *
      subst eE
      go_wp2
      go_ret
      exact ⟨rfl, by (repeat' (first | (with_reducible exact Below.refl _ _) | (with_reducible assumption) | (with_reducible refine Below.alloc ?_ ?_ _) | (with_reducible refine Below.drew ?_) | (with_reducible refine below_drewN ?_ _) | (with_reducible refine Below.setCell ?_ ?_ _) | (with_reducible refine below_after ?_ ?_ _) | (with_reducible refine below_set ?_) | (with_reducible refine After.size_le _ ?_) | (with_reducible refine size_alloc_le ?_) | (with_reducible refine size_set_le ?_) | (with_reducible refine size_drewN_le ?_) | go_size))⟩
    have eE : mgE n fr to lo hi = 0 := by unfold mgE; rw [decide_eq_true hc]; rfl
    have eA : mgA n fr to lo hi = mgL fr to lo hi n := by unfold mgA; rw [decide_eq_true hc]; rfl
    rw [eA] at HV9 ⊢
    have hln := mgL_len (fr := fr) (to := to) (lo := lo) (hi := hi) n
    have HC := Lib.hid hc
    have HPX := Lib.hid (PX.out _ va _ vc _ _ _ _ HV9.out (by omega))
    clear hc PX HV9 eA
    generalize mgE n fr to lo hi = e0 at *
    subst eE
    go_wp2_with fail
    refine HPX.out.mono ?_
    rintro e w10 ⟨⟨v9, e9, rfl, hw9⟩, hb10⟩
    obtain ⟨q5, q6⟩ := W1.out.one (WnS.merged HC.out hw9)
    subst q5 q6
    obtain ⟨x10, rfl⟩ : ∃ x : After w, w10 = x.w := ⟨⟨w10, x9.out.trans (hb10.mono x9.out.size)⟩, rfl⟩
    clear hw9 hb10 HPX
    go_wp2
    go_ret
    exact ⟨by simp, by (repeat' (first | (with_reducible exact Below.refl _ _) | (with_reducible assumption) | (with_reducible refine Below.alloc ?_ ?_ _) | (with_reducible refine Below.drew ?_) | (with_reducible refine below_drewN ?_ _) | (with_reducible refine Below.setCell ?_ ?_ _) | (with_reducible refine below_after ?_ ?_ _) | (with_reducible refine below_set ?_) | (with_reducible refine After.size_le _ ?_) | (with_reducible refine size_alloc_le ?_) | (with_reducible refine size_set_le ?_) | (with_reducible refine size_drewN_le ?_) | go_size))⟩
  have b2 : decide (from' ≤ till) = true := decide_eq_true g2
  by_cases g3 : till ≤ 100000
  case neg =>
    have b3 : decide (till ≤ 100000) = false := decide_eq_false g3
    clear g3
    go_enter Tryd.func8, Tryd.ntmps8
    go_wp2_with fail
    refine calls_after (HAw.out _ (by (repeat' (first | (with_reducible exact Below.refl _ _) | (with_reducible assumption) | (with_reducible refine Below.alloc ?_ ?_ _) | (with_reducible refine Below.drew ?_) | (with_reducible refine below_drewN ?_ _) | (with_reducible refine Below.setCell ?_ ?_ _) | (with_reducible refine below_after ?_ ?_ _) | (with_reducible refine below_set ?_) | (with_reducible refine After.size_le _ ?_) | (with_reducible refine size_alloc_le ?_) | (with_reducible refine size_set_le ?_) | (with_reducible refine size_drewN_le ?_) | go_size)))) ?_
    intro x1
    go_wp2_with fail
    refine (P1.out _ x1.out).mono ?_
    rintro e w2 ⟨⟨v1, e1, rfl, hw1⟩, hb2⟩
    obtain ⟨x2, rfl⟩ : ∃ x : After w, w2 = x.w := ⟨⟨w2, x1.out.trans (hb2.mono x1.out.size)⟩, rfl⟩
    have W1 := Lib.hid hw1
    clear hb2 hw1 HAw
    go_wp2_with fail
    refine (R1.out _ x2.out).mono ?_
    rintro e w3 ⟨⟨v2, e2, rfl, hw2⟩, hb3⟩
    obtain ⟨x3, rfl⟩ : ∃ x : After w, w3 = x.w := ⟨⟨w3, x2.out.trans (hb3.mono x2.out.size)⟩, rfl⟩
    obtain ⟨q1, q2⟩ := WnS.one W1.out hw2
    subst q1 q2
    clear hb3 hw2 R1
    go_wp2_with fail
    refine calls_after2 (PV.out _ (by (repeat' (first | (with_reducible exact Below.refl _ _) | (with_reducible assumption) | (with_reducible refine Below.alloc ?_ ?_ _) | (with_reducible refine Below.drew ?_) | (with_reducible refine below_drewN ?_ _) | (with_reducible refine Below.setCell ?_ ?_ _) | (with_reducible refine below_after ?_ ?_ _) | (with_reducible refine below_set ?_) | (with_reducible refine After.size_le _ ?_) | (with_reducible refine size_alloc_le ?_) | (with_reducible refine size_set_le ?_) | (with_reducible refine size_drewN_le ?_) | go_size)))) ?_
    intro x3'
    go_wp2_with fail
    refine calls_after2 (RV.out _ (by (repeat' (first | (with_reducible exact Below.refl _ _) | (with_reducible assumption) | (with_reducible refine Below.alloc ?_ ?_ _) | (with_reducible refine Below.drew ?_) | (with_reducible refine below_drewN ?_ _) | (with_reducible refine Below.setCell ?_ ?_ _) | (with_reducible refine below_after ?_ ?_ _) | (with_reducible refine below_set ?_) | (with_reducible refine After.size_le _ ?_) | (with_reducible refine size_alloc_le ?_) | (with_reducible refine size_set_le ?_) | (with_reducible refine size_drewN_le ?_) | go_size)))) ?_
    intro x4
    clear PV RV
    go_wp2_with fail
    refine (P2.out _ (by (repeat' (first | (with_reducible exact Below.refl _ _) | (with_reducible assumption) | (with_reducible refine Below.alloc ?_ ?_ _) | (with_reducible refine Below.drew ?_) | (with_reducible refine below_drewN ?_ _) | (with_reducible refine Below.setCell ?_ ?_ _) | (with_reducible refine below_after ?_ ?_ _) | (with_reducible refine below_set ?_) | (with_reducible refine After.size_le _ ?_) | (with_reducible refine size_alloc_le ?_) | (with_reducible refine size_set_le ?_) | (with_reducible refine size_drewN_le ?_) | go_size)))).mono ?_
    rintro e w5 ⟨⟨v3, e3, rfl, hw3⟩, hb5⟩
    obtain ⟨x5, rfl⟩ : ∃ x : After w, w5 = x.w := ⟨⟨w5, (show Below w.heap.size w x4.w by (repeat' (first | (with_reducible exact Below.refl _ _) | (with_reducible assumption) | (with_reducible refine Below.alloc ?_ ?_ _) | (with_reducible refine Below.drew ?_) | (with_reducible refine below_drewN ?_ _) | (with_reducible refine Below.setCell ?_ ?_ _) | (with_reducible refine below_after ?_ ?_ _) | (with_reducible refine below_set ?_) | (with_reducible refine After.size_le _ ?_) | (with_reducible refine size_alloc_le ?_) | (with_reducible refine size_set_le ?_) | (with_reducible refine size_drewN_le ?_) | go_size))).trans (hb5.mono (show Below w.heap.size w x4.w by (repeat' (first | (with_reducible exact Below.refl _ _) | (with_reducible assumption) | (with_reducible refine Below.alloc ?_ ?_ _) | (with_reducible refine Below.drew ?_) | (with_reducible refine below_drewN ?_ _) | (with_reducible refine Below.setCell ?_ ?_ _) | (with_reducible refine below_after ?_ ?_ _) | (with_reducible refine below_set ?_) | (with_reducible refine After.size_le _ ?_) | (with_reducible refine size_alloc_le ?_) | (with_reducible refine size_set_le ?_) | (with_reducible refine size_drewN_le ?_) | go_size))).size)⟩, rfl⟩
    have W2 := Lib.hid hw3
    clear hb5 hw3 P2
    go_wp2_with fail
    refine (R2.out _ x5.out).mono ?_
    rintro e w6 ⟨⟨v4, e4, rfl, hw4⟩, hb6⟩
    obtain ⟨x6, rfl⟩ : ∃ x : After w, w6 = x.w := ⟨⟨w6, x5.out.trans (hb6.mono x5.out.size)⟩, rfl⟩
    obtain ⟨q3, q4⟩ := WnS.one W2.out hw4
    subst q3 q4
    clear hb6 hw4 R2
    by_cases he : e1 = 0
    case neg =>
      have bb1 : (e1 == 0) = false := beq_eq_false_iff_ne.2 he
      go_wp2_with fail
      refine (P3.out _ x6.out).mono ?_
      rintro e w7 ⟨⟨v, rfl, hv⟩, hb7⟩
      obtain ⟨va, vc, rfl, hvi⟩ := hv.in
      obtain ⟨x7, rfl⟩ : ∃ x : After w, w7 = x.w := ⟨⟨w7, x6.out.trans (hb7.mono x6.out.size)⟩, rfl⟩
      have HV7 := Lib.hid hvi
      clear hv hb7 hvi P3
      go_wp2_with fail
      refine (R3.out _ x7.out).mono ?_
      rintro e w8 ⟨⟨u, rfl, hu⟩, hb8⟩
      obtain ⟨ua, uc, rfl, hui⟩ := hu.in
      obtain ⟨x8, rfl⟩ : ∃ x : After w, w8 = x.w := ⟨⟨w8, x7.out.trans (hb8.mono x7.out.size)⟩, rfl⟩
      have HV8 := Lib.hid (HV7.out.on hb8)
      have HSc := Lib.hid (casts_any va ua _ vc uc _ _ _ _ x8.w HV8.out hui (by omega))
      clear hu hb8 R3 hui HV7
      go_wp2_with fail
      refine HSc.out.mono ?_
      rintro e w9 ⟨rfl, hb9⟩
      have HV9 := Lib.hid (HV8.out.on hb9)
      obtain ⟨x9, rfl⟩ : ∃ x : After w, w9 = x.w := ⟨⟨w9, x8.out.trans (hb9.mono x8.out.size)⟩, rfl⟩
      clear hb9 HSc HV8
      by_cases hc : GoodCs n fr to lo hi
      case neg =>
        have eE : mgE n fr to lo hi = 1 := by unfold mgE; rw [decide_eq_false hc]; rfl
        clear hc PX HV9
        generalize mgE n fr to lo hi = e0 at *
        subst eE
        go_wp2
        go_ret
        exact ⟨rfl, by (repeat' (first | (with_reducible exact Below.refl _ _) | (with_reducible assumption) | (with_reducible refine Below.alloc ?_ ?_ _) | (with_reducible refine Below.drew ?_) | (with_reducible refine below_drewN ?_ _) | (with_reducible refine Below.setCell ?_ ?_ _) | (with_reducible refine below_after ?_ ?_ _) | (with_reducible refine below_set ?_) | (with_reducible refine After.size_le _ ?_) | (with_reducible refine size_alloc_le ?_) | (with_reducible refine size_set_le ?_) | (with_reducible refine size_drewN_le ?_) | go_size))⟩
      have eE : mgE n fr to lo hi = 0 := by unfold mgE; rw [decide_eq_true hc]; rfl
      have eA : mgA n fr to lo hi = mgL fr to lo hi n := by unfold mgA; rw [decide_eq_true hc]; rfl
      rw [eA] at HV9 ⊢
      have hln := mgL_len (fr := fr) (to := to) (lo := lo) (hi := hi) n
      have HC := Lib.hid hc
      have HPX := Lib.hid (PX.out _ va _ vc _ _ _ _ HV9.out (by omega))
      clear hc PX HV9 eA
      generalize mgE n fr to lo hi = e0 at *
      subst eE
      go_wp2_with fail
      refine HPX.out.mono ?_
      rintro e w10 ⟨⟨v9, e9, rfl, hw9⟩, hb10⟩
      obtain ⟨q5, q6⟩ := W1.out.one (WnS.merged HC.out hw9)
      subst q5 q6
      obtain ⟨x10, rfl⟩ : ∃ x : After w, w10 = x.w := ⟨⟨w10, x9.out.trans (hb10.mono x9.out.size)⟩, rfl⟩
      clear hw9 hb10 HPX
      go_wp2
      go_ret
      exact ⟨by simp, by (repeat' (first | (with_reducible exact Below.refl _ _) | (with_reducible assumption) | (with_reducible refine Below.alloc ?_ ?_ _) | (with_reducible refine Below.drew ?_) | (with_reducible refine below_drewN ?_ _) | (with_reducible refine Below.setCell ?_ ?_ _) | (with_reducible refine below_after ?_ ?_ _) | (with_reducible refine below_set ?_) | (with_reducible refine After.size_le _ ?_) | (with_reducible refine size_alloc_le ?_) | (with_reducible refine size_set_le ?_) | (with_reducible refine size_drewN_le ?_) | go_size))⟩
    subst he
    obtain ⟨rfl, hle⟩ := W1.out.sub W2.out
    have bb2 : decide (v1 < v3) = false := decide_eq_false (by omega)
    go_wp2_with fail
    refine (P3.out _ x6.out).mono ?_
    rintro e w7 ⟨⟨v, rfl, hv⟩, hb7⟩
    obtain ⟨va, vc, rfl, hvi⟩ := hv.in
    obtain ⟨x7, rfl⟩ : ∃ x : After w, w7 = x.w := ⟨⟨w7, x6.out.trans (hb7.mono x6.out.size)⟩, rfl⟩
    have HV7 := Lib.hid hvi
    clear hv hb7 hvi P3
    go_wp2_with fail
    refine (R3.out _ x7.out).mono ?_
    rintro e w8 ⟨⟨u, rfl, hu⟩, hb8⟩
    obtain ⟨ua, uc, rfl, hui⟩ := hu.in
    obtain ⟨x8, rfl⟩ : ∃ x : After w, w8 = x.w := ⟨⟨w8, x7.out.trans (hb8.mono x7.out.size)⟩, rfl⟩
    have HV8 := Lib.hid (HV7.out.on hb8)
    have HSc := Lib.hid (casts_any va ua _ vc uc _ _ _ _ x8.w HV8.out hui (by omega))
    clear hu hb8 R3 hui HV7
    go_wp2_with fail
    refine HSc.out.mono ?_
    rintro e w9 ⟨rfl, hb9⟩
    have HV9 := Lib.hid (HV8.out.on hb9)
    obtain ⟨x9, rfl⟩ : ∃ x : After w, w9 = x.w := ⟨⟨w9, x8.out.trans (hb9.mono x8.out.size)⟩, rfl⟩
    clear hb9 HSc HV8
    by_cases hc : GoodCs n fr to lo hi
    case neg =>
      have eE : mgE n fr to lo hi = 1 := by unfold mgE; rw [decide_eq_false hc]; rfl
      clear hc PX HV9
      generalize mgE n fr to lo hi = e0 at *
      subst eE
      go_wp2
      go_ret
      exact ⟨rfl, by (repeat' (first | (with_reducible exact Below.refl _ _) | (with_reducible assumption) | (with_reducible refine Below.alloc ?_ ?_ _) | (with_reducible refine Below.drew ?_) | (with_reducible refine below_drewN ?_ _) | (with_reducible refine Below.setCell ?_ ?_ _) | (with_reducible refine below_after ?_ ?_ _) | (with_reducible refine below_set ?_) | (with_reducible refine After.size_le _ ?_) | (with_reducible refine size_alloc_le ?_) | (with_reducible refine size_set_le ?_) | (with_reducible refine size_drewN_le ?_) | go_size))⟩
    have eE : mgE n fr to lo hi = 0 := by unfold mgE; rw [decide_eq_true hc]; rfl
    have eA : mgA n fr to lo hi = mgL fr to lo hi n := by unfold mgA; rw [decide_eq_true hc]; rfl
    rw [eA] at HV9 ⊢
    have hln := mgL_len (fr := fr) (to := to) (lo := lo) (hi := hi) n
    have HC := Lib.hid hc
    have HPX := Lib.hid (PX.out _ va _ vc _ _ _ _ HV9.out (by omega))
    clear hc PX HV9 eA
    generalize mgE n fr to lo hi = e0 at *
    subst eE
    go_wp2_with fail
    refine HPX.out.mono ?_
    rintro e w10 ⟨⟨v9, e9, rfl, hw9⟩, hb10⟩
    obtain ⟨q5, q6⟩ := W1.out.one (WnS.merged HC.out hw9)
    subst q5 q6
    obtain ⟨x10, rfl⟩ : ∃ x : After w, w10 = x.w := ⟨⟨w10, x9.out.trans (hb10.mono x9.out.size)⟩, rfl⟩
    clear hw9 hb10 HPX
    go_wp2
    go_ret
    exact ⟨by simp, by (repeat' (first | (with_reducible exact Below.refl _ _) | (with_reducible assumption) | (with_reducible refine Below.alloc ?_ ?_ _) | (with_reducible refine Below.drew ?_) | (with_reducible refine below_drewN ?_ _) | (with_reducible refine Below.setCell ?_ ?_ _) | (with_reducible refine below_after ?_ ?_ _) | (with_reducible refine below_set ?_) | (with_reducible refine After.size_le _ ?_) | (with_reducible refine size_alloc_le ?_) | (with_reducible refine size_set_le ?_) | (with_reducible refine size_drewN_le ?_) | go_size))⟩
  have b3 : decide (till ≤ 100000) = true := decide_eq_true g3
  by_cases g4 : 600 < till - from'
  case neg =>
    have b4 : decide (600 < till - from') = false := decide_eq_false g4
    clear g4
    go_enter Tryd.func8, Tryd.ntmps8
    go_wp2_with fail
    refine calls_after (HAw.out _ (by (repeat' (first | (with_reducible exact Below.refl _ _) | (with_reducible assumption) | (with_reducible refine Below.alloc ?_ ?_ _) | (with_reducible refine Below.drew ?_) | (with_reducible refine below_drewN ?_ _) | (with_reducible refine Below.setCell ?_ ?_ _) | (with_reducible refine below_after ?_ ?_ _) | (with_reducible refine below_set ?_) | (with_reducible refine After.size_le _ ?_) | (with_reducible refine size_alloc_le ?_) | (with_reducible refine size_set_le ?_) | (with_reducible refine size_drewN_le ?_) | go_size)))) ?_
    intro x1
    go_wp2_with fail
    refine (P1.out _ x1.out).mono ?_
    rintro e w2 ⟨⟨v1, e1, rfl, hw1⟩, hb2⟩
    obtain ⟨x2, rfl⟩ : ∃ x : After w, w2 = x.w := ⟨⟨w2, x1.out.trans (hb2.mono x1.out.size)⟩, rfl⟩
    have W1 := Lib.hid hw1
    clear hb2 hw1 HAw
    go_wp2_with fail
    refine (R1.out _ x2.out).mono ?_
    rintro e w3 ⟨⟨v2, e2, rfl, hw2⟩, hb3⟩
    obtain ⟨x3, rfl⟩ : ∃ x : After w, w3 = x.w := ⟨⟨w3, x2.out.trans (hb3.mono x2.out.size)⟩, rfl⟩
    obtain ⟨q1, q2⟩ := WnS.one W1.out hw2
    subst q1 q2
    clear hb3 hw2 R1
    go_wp2_with fail
    refine calls_after2 (PV.out _ (by (repeat' (first | (with_reducible exact Below.refl _ _) | (with_reducible assumption) | (with_reducible refine Below.alloc ?_ ?_ _) | (with_reducible refine Below.drew ?_) | (with_reducible refine below_drewN ?_ _) | (with_reducible refine Below.setCell ?_ ?_ _) | (with_reducible refine below_after ?_ ?_ _) | (with_reducible refine below_set ?_) | (with_reducible refine After.size_le _ ?_) | (with_reducible refine size_alloc_le ?_) | (with_reducible refine size_set_le ?_) | (with_reducible refine size_drewN_le ?_) | go_size)))) ?_
    intro x3'
    go_wp2_with fail
    refine calls_after2 (RV.out _ (by (repeat' (first | (with_reducible exact Below.refl _ _) | (with_reducible assumption) | (with_reducible refine Below.alloc ?_ ?_ _) | (with_reducible refine Below.drew ?_) | (with_reducible refine below_drewN ?_ _) | (with_reducible refine Below.setCell ?_ ?_ _) | (with_reducible refine below_after ?_ ?_ _) | (with_reducible refine below_set ?_) | (with_reducible refine After.size_le _ ?_) | (with_reducible refine size_alloc_le ?_) | (with_reducible refine size_set_le ?_) | (with_reducible refine size_drewN_le ?_) | go_size)))) ?_
    intro x4
    clear PV RV
    go_wp2_with fail
    refine (P2.out _ (by (repeat' (first | (with_reducible exact Below.refl _ _) | (with_reducible assumption) | (with_reducible refine Below.alloc ?_ ?_ _) | (with_reducible refine Below.drew ?_) | (with_reducible refine below_drewN ?_ _) | (with_reducible refine Below.setCell ?_ ?_ _) | (with_reducible refine below_after ?_ ?_ _) | (with_reducible refine below_set ?_) | (with_reducible refine After.size_le _ ?_) | (with_reducible refine size_alloc_le ?_) | (with_reducible refine size_set_le ?_) | (with_reducible refine size_drewN_le ?_) | go_size)))).mono ?_
    rintro e w5 ⟨⟨v3, e3, rfl, hw3⟩, hb5⟩
    obtain ⟨x5, rfl⟩ : ∃ x : After w, w5 = x.w := ⟨⟨w5, (show Below w.heap.size w x4.w by (repeat' (first | (with_reducible exact Below.refl _ _) | (with_reducible assumption) | (with_reducible refine Below.alloc ?_ ?_ _) | (with_reducible refine Below.drew ?_) | (with_reducible refine below_drewN ?_ _) | (with_reducible refine Below.setCell ?_ ?_ _) | (with_reducible refine below_after ?_ ?_ _) | (with_reducible refine below_set ?_) | (with_reducible refine After.size_le _ ?_) | (with_reducible refine size_alloc_le ?_) | (with_reducible refine size_set_le ?_) | (with_reducible refine size_drewN_le ?_) | go_size))).trans (hb5.mono (show Below w.heap.size w x4.w by (repeat' (first | (with_reducible exact Below.refl _ _) | (with_reducible assumption) | (with_reducible refine Below.alloc ?_ ?_ _) | (with_reducible refine Below.drew ?_) | (with_reducible refine below_drewN ?_ _) | (with_reducible refine Below.setCell ?_ ?_ _) | (with_reducible refine below_after ?_ ?_ _) | (with_reducible refine below_set ?_) | (with_reducible refine After.size_le _ ?_) | (with_reducible refine size_alloc_le ?_) | (with_reducible refine size_set_le ?_) | (with_reducible refine size_drewN_le ?_) | go_size))).size)⟩, rfl⟩
    have W2 := Lib.hid hw3
    clear hb5 hw3 P2
    go_wp2_with fail
    refine (R2.out _ x5.out).mono ?_
    rintro e w6 ⟨⟨v4, e4, rfl, hw4⟩, hb6⟩
    obtain ⟨x6, rfl⟩ : ∃ x : After w, w6 = x.w := ⟨⟨w6, x5.out.trans (hb6.mono x5.out.size)⟩, rfl⟩
    obtain ⟨q3, q4⟩ := WnS.one W2.out hw4
    subst q3 q4
    clear hb6 hw4 R2
    by_cases he : e1 = 0
    case neg =>
      have bb1 : (e1 == 0) = false := beq_eq_false_iff_ne.2 he
      go_wp2_with fail
      refine (P3.out _ x6.out).mono ?_
      rintro e w7 ⟨⟨v, rfl, hv⟩, hb7⟩
      obtain ⟨va, vc, rfl, hvi⟩ := hv.in
      obtain ⟨x7, rfl⟩ : ∃ x : After w, w7 = x.w := ⟨⟨w7, x6.out.trans (hb7.mono x6.out.size)⟩, rfl⟩
      have HV7 := Lib.hid hvi
      clear hv hb7 hvi P3
      go_wp2_with fail
      refine (R3.out _ x7.out).mono ?_
      rintro e w8 ⟨⟨u, rfl, hu⟩, hb8⟩
      obtain ⟨ua, uc, rfl, hui⟩ := hu.in
      obtain ⟨x8, rfl⟩ : ∃ x : After w, w8 = x.w := ⟨⟨w8, x7.out.trans (hb8.mono x7.out.size)⟩, rfl⟩
      have HV8 := Lib.hid (HV7.out.on hb8)
      have HSc := Lib.hid (casts_any va ua _ vc uc _ _ _ _ x8.w HV8.out hui (by omega))
      clear hu hb8 R3 hui HV7
      go_wp2_with fail
      refine HSc.out.mono ?_
      rintro e w9 ⟨rfl, hb9⟩
      have HV9 := Lib.hid (HV8.out.on hb9)
      obtain ⟨x9, rfl⟩ : ∃ x : After w, w9 = x.w := ⟨⟨w9, x8.out.trans (hb9.mono x8.out.size)⟩, rfl⟩
      clear hb9 HSc HV8
      by_cases hc : GoodCs n fr to lo hi
      case neg =>
        have eE : mgE n fr to lo hi = 1 := by unfold mgE; rw [decide_eq_false hc]; rfl
        clear hc PX HV9
        generalize mgE n fr to lo hi = e0 at *
        subst eE
        go_wp2
        go_ret
        exact ⟨rfl, by (repeat' (first | (with_reducible exact Below.refl _ _) | (with_reducible assumption) | (with_reducible refine Below.alloc ?_ ?_ _) | (with_reducible refine Below.drew ?_) | (with_reducible refine below_drewN ?_ _) | (with_reducible refine Below.setCell ?_ ?_ _) | (with_reducible refine below_after ?_ ?_ _) | (with_reducible refine below_set ?_) | (with_reducible refine After.size_le _ ?_) | (with_reducible refine size_alloc_le ?_) | (with_reducible refine size_set_le ?_) | (with_reducible refine size_drewN_le ?_) | go_size))⟩
      have eE : mgE n fr to lo hi = 0 := by unfold mgE; rw [decide_eq_true hc]; rfl
      have eA : mgA n fr to lo hi = mgL fr to lo hi n := by unfold mgA; rw [decide_eq_true hc]; rfl
      rw [eA] at HV9 ⊢
      have hln := mgL_len (fr := fr) (to := to) (lo := lo) (hi := hi) n
      have HC := Lib.hid hc
      have HPX := Lib.hid (PX.out _ va _ vc _ _ _ _ HV9.out (by omega))
      clear hc PX HV9 eA
      generalize mgE n fr to lo hi = e0 at *
      subst eE
      go_wp2_with fail
      refine HPX.out.mono ?_
      rintro e w10 ⟨⟨v9, e9, rfl, hw9⟩, hb10⟩
      obtain ⟨q5, q6⟩ := W1.out.one (WnS.merged HC.out hw9)
      subst q5 q6
      obtain ⟨x10, rfl⟩ : ∃ x : After w, w10 = x.w := ⟨⟨w10, x9.out.trans (hb10.mono x9.out.size)⟩, rfl⟩
      clear hw9 hb10 HPX
      go_wp2
      go_ret
      exact ⟨by simp, by (repeat' (first | (with_reducible exact Below.refl _ _) | (with_reducible assumption) | (with_reducible refine Below.alloc ?_ ?_ _) | (with_reducible refine Below.drew ?_) | (with_reducible refine below_drewN ?_ _) | (with_reducible refine Below.setCell ?_ ?_ _) | (with_reducible refine below_after ?_ ?_ _) | (with_reducible refine below_set ?_) | (with_reducible refine After.size_le _ ?_) | (with_reducible refine size_alloc_le ?_) | (with_reducible refine size_set_le ?_) | (with_reducible refine size_drewN_le ?_) | go_size))⟩
    subst he
    obtain ⟨rfl, hle⟩ := W1.out.sub W2.out
    have bb2 : decide (v1 < v3) = false := decide_eq_false (by omega)
    go_wp2_with fail
    refine (P3.out _ x6.out).mono ?_
    rintro e w7 ⟨⟨v, rfl, hv⟩, hb7⟩
    obtain ⟨va, vc, rfl, hvi⟩ := hv.in
    obtain ⟨x7, rfl⟩ : ∃ x : After w, w7 = x.w := ⟨⟨w7, x6.out.trans (hb7.mono x6.out.size)⟩, rfl⟩
    have HV7 := Lib.hid hvi
    clear hv hb7 hvi P3
    go_wp2_with fail
    refine (R3.out _ x7.out).mono ?_
    rintro e w8 ⟨⟨u, rfl, hu⟩, hb8⟩
    obtain ⟨ua, uc, rfl, hui⟩ := hu.in
    obtain ⟨x8, rfl⟩ : ∃ x : After w, w8 = x.w := ⟨⟨w8, x7.out.trans (hb8.mono x7.out.size)⟩, rfl⟩
    have HV8 := Lib.hid (HV7.out.on hb8)
    have HSc := Lib.hid (casts_any va ua _ vc uc _ _ _ _ x8.w HV8.out hui (by omega))
    clear hu hb8 R3 hui HV7
    go_wp2_with fail
    refine HSc.out.mono ?_
    rintro e w9 ⟨rfl, hb9⟩
    have HV9 := Lib.hid (HV8.out.on hb9)
    obtain ⟨x9, rfl⟩ : ∃ x : After w, w9 = x.w := ⟨⟨w9, x8.out.trans (hb9.mono x8.out.size)⟩, rfl⟩
    clear hb9 HSc HV8
    by_cases hc : GoodCs n fr to lo hi
    case neg =>
      have eE : mgE n fr to lo hi = 1 := by unfold mgE; rw [decide_eq_false hc]; rfl
      clear hc PX HV9
      generalize mgE n fr to lo hi = e0 at *
      subst eE
      go_wp2
      go_ret
      exact ⟨rfl, by (repeat' (first | (with_reducible exact Below.refl _ _) | (with_reducible assumption) | (with_reducible refine Below.alloc ?_ ?_ _) | (with_reducible refine Below.drew ?_) | (with_reducible refine below_drewN ?_ _) | (with_reducible refine Below.setCell ?_ ?_ _) | (with_reducible refine below_after ?_ ?_ _) | (with_reducible refine below_set ?_) | (with_reducible refine After.size_le _ ?_) | (with_reducible refine size_alloc_le ?_) | (with_reducible refine size_set_le ?_) | (with_reducible refine size_drewN_le ?_) | go_size))⟩
    have eE : mgE n fr to lo hi = 0 := by unfold mgE; rw [decide_eq_true hc]; rfl
    have eA : mgA n fr to lo hi = mgL fr to lo hi n := by unfold mgA; rw [decide_eq_true hc]; rfl
    rw [eA] at HV9 ⊢
    have hln := mgL_len (fr := fr) (to := to) (lo := lo) (hi := hi) n
    have HC := Lib.hid hc
    have HPX := Lib.hid (PX.out _ va _ vc _ _ _ _ HV9.out (by omega))
    clear hc PX HV9 eA
    generalize mgE n fr to lo hi = e0 at *
    subst eE
    go_wp2_with fail
    refine HPX.out.mono ?_
    rintro e w10 ⟨⟨v9, e9, rfl, hw9⟩, hb10⟩
    obtain ⟨q5, q6⟩ := W1.out.one (WnS.merged HC.out hw9)
    subst q5 q6
    obtain ⟨x10, rfl⟩ : ∃ x : After w, w10 = x.w := ⟨⟨w10, x9.out.trans (hb10.mono x9.out.size)⟩, rfl⟩
    clear hw9 hb10 HPX
    go_wp2
    go_ret
    exact ⟨by simp, by (repeat' (first | (with_reducible exact Below.refl _ _) | (with_reducible assumption) | (with_reducible refine Below.alloc ?_ ?_ _) | (with_reducible refine Below.drew ?_) | (with_reducible refine below_drewN ?_ _) | (with_reducible refine Below.setCell ?_ ?_ _) | (with_reducible refine below_after ?_ ?_ _) | (with_reducible refine below_set ?_) | (with_reducible refine After.size_le _ ?_) | (with_reducible refine size_alloc_le ?_) | (with_reducible refine size_set_le ?_) | (with_reducible refine size_drewN_le ?_) | go_size))⟩
  have b4 : decide (600 < till - from') = true := decide_eq_true g4
  go_enter Tryd.func8, Tryd.ntmps8
  go_wp2_with fail
  refine calls_after (HAw.out _ (by (repeat' (first | (with_reducible exact Below.refl _ _) | (with_reducible assumption) | (with_reducible refine Below.alloc ?_ ?_ _) | (with_reducible refine Below.drew ?_) | (with_reducible refine below_drewN ?_ _) | (with_reducible refine Below.setCell ?_ ?_ _) | (with_reducible refine below_after ?_ ?_ _) | (with_reducible refine below_set ?_) | (with_reducible refine After.size_le _ ?_) | (with_reducible refine size_alloc_le ?_) | (with_reducible refine size_set_le ?_) | (with_reducible refine size_drewN_le ?_) | go_size)))) ?_
  intro x1
  go_wp2_with fail
  go_ret
  exact ⟨rfl, by (repeat' (first | (with_reducible exact Below.refl _ _) | (with_reducible assumption) | (with_reducible refine Below.alloc ?_ ?_ _) | (with_reducible refine Below.drew ?_) | (with_reducible refine below_drewN ?_ _) | (with_reducible refine Below.setCell ?_ ?_ _) | (with_reducible refine below_after ?_ ?_ _) | (with_reducible refine below_set ?_) | (with_reducible refine After.size_le _ ?_) | (with_reducible refine size_alloc_le ?_) | (with_reducible refine size_set_le ?_) | (with_reducible refine size_drewN_le ?_) | go_size))⟩
end Go.Proofs.YtlnlgboeohfpdaaDoor
