/- A window in the reference. -/
import Derived.Test.YtlnlgboeohfpdaaDoorWvr
namespace Go.Proofs.YtlnlgboeohfpdaaDoor
open Go.RowKit
attribute [local go_sem] After.cell After.frozen After.lt After.le After.ne After.ne' After.set_eq After.size_set After.lt_add

set_option maxRecDepth 100000 in
set_option maxHeartbeats 1000000 in
theorem rfine_any (a : Option Addr) (n cap : Nat) (fr to lo hi : Nat → Int) (m mark : Int) (s : Bool) (w : World) (hA : CAt w a n fr to lo hi) (hn : n ≤ 9223372036854775807) (hc : CsOk n fr to lo hi) :
    Calls Tryd.prog 87 #[.slice a n cap, .int .i64 m, .int .i64 mark, .bool s] w fun e w' => e = .returned (.bool (fnB n fr to lo hi mark s m)) ∧ Below w.heap.size w w' := by
  rcases first_in fr to m n with hno | ⟨k, hkn, hck, hbk⟩
  · rw [fnB_out hno]
    have HC := Lib.hid (castAt_out a n cap fr to lo hi m w hA hn hno)
    clear hA hc hno
    cases s
    · skip
      go_enter Tryd.func87, Tryd.ntmps87
      go_wp2_with fail
      refine HC.out.mono ?_
      rintro e w1 ⟨rfl, hb1⟩
      obtain ⟨x1, rfl⟩ : ∃ x : After w, w1 = x.w := ⟨⟨w1, hb1⟩, rfl⟩
      clear hb1
      go_wp2
      go_ret
      exact ⟨by simp, by (repeat' (first | (with_reducible exact Below.refl _ _) | (with_reducible assumption) | (with_reducible refine Below.alloc ?_ ?_ _) | (with_reducible refine Below.drew ?_) | (with_reducible refine below_drewN ?_ _) | (with_reducible refine Below.setCell ?_ ?_ _) | (with_reducible refine below_after ?_ ?_ _) | (with_reducible refine below_set ?_) | (with_reducible refine After.size_le _ ?_) | (with_reducible refine size_alloc_le ?_) | (with_reducible refine size_set_le ?_) | (with_reducible refine size_drewN_le ?_) | go_size))⟩
    · skip
      go_enter Tryd.func87, Tryd.ntmps87
      go_wp2_with fail
      refine HC.out.mono ?_
      rintro e w1 ⟨rfl, hb1⟩
      obtain ⟨x1, rfl⟩ : ∃ x : After w, w1 = x.w := ⟨⟨w1, hb1⟩, rfl⟩
      clear hb1
      go_wp2
      go_ret
      exact ⟨by simp, by (repeat' (first | (with_reducible exact Below.refl _ _) | (with_reducible assumption) | (with_reducible refine Below.alloc ?_ ?_ _) | (with_reducible refine Below.drew ?_) | (with_reducible refine below_drewN ?_ _) | (with_reducible refine Below.setCell ?_ ?_ _) | (with_reducible refine below_after ?_ ?_ _) | (with_reducible refine below_set ?_) | (with_reducible refine After.size_le _ ?_) | (with_reducible refine size_alloc_le ?_) | (with_reducible refine size_set_le ?_) | (with_reducible refine size_drewN_le ?_) | go_size))⟩
  · rw [fnB_in hc hkn hck]
    have HC := Lib.hid (castAt_in a n cap fr to lo hi m w hA hn k hkn hck hbk)
    clear hA hc hck hbk
    unfold askC
    generalize fr k = x0 at *
    generalize to k = x1 at *
    generalize lo k = x2 at *
    generalize hi k = x3 at *
    cases s
    · skip
      go_enter Tryd.func87, Tryd.ntmps87
      go_wp2_with fail
      refine HC.out.mono ?_
      rintro e w1 ⟨rfl, hb1⟩
      obtain ⟨x1, rfl⟩ : ∃ x : After w, w1 = x.w := ⟨⟨w1, hb1⟩, rfl⟩
      clear hb1
      go_wp2
      go_ret
      exact ⟨by simp, by (repeat' (first | (with_reducible exact Below.refl _ _) | (with_reducible assumption) | (with_reducible refine Below.alloc ?_ ?_ _) | (with_reducible refine Below.drew ?_) | (with_reducible refine below_drewN ?_ _) | (with_reducible refine Below.setCell ?_ ?_ _) | (with_reducible refine below_after ?_ ?_ _) | (with_reducible refine below_set ?_) | (with_reducible refine After.size_le _ ?_) | (with_reducible refine size_alloc_le ?_) | (with_reducible refine size_set_le ?_) | (with_reducible refine size_drewN_le ?_) | go_size))⟩
    · skip
      go_enter Tryd.func87, Tryd.ntmps87
      go_wp2_with fail
      refine HC.out.mono ?_
      rintro e w1 ⟨rfl, hb1⟩
      obtain ⟨x1, rfl⟩ : ∃ x : After w, w1 = x.w := ⟨⟨w1, hb1⟩, rfl⟩
      clear hb1
      go_wp2
      go_ret
      exact ⟨by simp, by (repeat' (first | (with_reducible exact Below.refl _ _) | (with_reducible assumption) | (with_reducible refine Below.alloc ?_ ?_ _) | (with_reducible refine Below.drew ?_) | (with_reducible refine below_drewN ?_ _) | (with_reducible refine Below.setCell ?_ ?_ _) | (with_reducible refine below_after ?_ ?_ _) | (with_reducible refine below_set ?_) | (with_reducible refine After.size_le _ ?_) | (with_reducible refine size_alloc_le ?_) | (with_reducible refine size_set_le ?_) | (with_reducible refine size_drewN_le ?_) | go_size))⟩
set_option maxRecDepth 100000 in
set_option maxHeartbeats 4000000 in
theorem rwindow_say (a : Option Addr) (n cap : Nat) (fr to lo hi : Nat → Int) (mark k from' till : Int) (s : Bool) (w : World) (hA : CAt w a n fr to lo hi) (hn : n ≤ 9223372036854775807) :
    Calls Tryd.prog 69 #[.slice a n cap, .int .i64 mark, .int .i64 k, .int .i64 from', .int .i64 till, .bool s] w fun e w' => (∃ v e', e = .returned (.tuple #[.int .i64 v, .int .i64 e']) ∧ WnS n fr to lo hi mark s k from' till e' v) ∧ Below w.heap.size w w' := by
  have HV := Lib.hid (rvalidCasts_any a n cap fr to lo hi w hA hn)
  cases hk : decide (GoodCs n fr to lo hi)
  · rw [hk] at HV
    unfold WnS
    rw [hk]
    clear hA
    go_enter Tryd.func69, Tryd.ntmps69
    go_wp2_with fail
    refine calls_after HV.out ?_
    intro x1
    go_wp2
    go_returns
    exact ⟨⟨_, _, rfl, rfl, rfl⟩, by (repeat' (first | (with_reducible exact Below.refl _ _) | (with_reducible assumption) | (with_reducible refine Below.alloc ?_ ?_ _) | (with_reducible refine Below.drew ?_) | (with_reducible refine below_drewN ?_ _) | (with_reducible refine Below.setCell ?_ ?_ _) | (with_reducible refine below_after ?_ ?_ _) | (with_reducible refine below_set ?_) | (with_reducible refine After.size_le _ ?_) | (with_reducible refine size_alloc_le ?_) | (with_reducible refine size_set_le ?_) | (with_reducible refine size_drewN_le ?_) | go_size))⟩
  · rw [hk] at HV
    cases hr : decide (RngOk mark k from' till)
    · have hbad := of_decide_eq_false hr
      unfold WnS
      rw [hk, hr]
      unfold RngOk at hbad
      clear hA hr
      have step : ∀ b1 b2 b3 b4 : Bool, decide (Btw mark 1 200) = b1 → decide (Btw k 1 10000) = b2 → decide (Btw till 0 100000) = b3 → decide (Btw from' 0 till) = b4 → (b1 && b2 && b3 && b4) = false := by
        intro b1 b2 b3 b4 e1 e2 e3 e4
        subst e1 e2 e3 e4
        rw [Bool.eq_false_iff]
        intro h
        simp only [Bool.and_eq_true, decide_eq_true_eq] at h
        exact hbad ⟨h.1.1.1, h.1.1.2, by have := h.2; have := h.1.2; unfold Btw at *; unfold Wth; omega⟩
      have H1 := Lib.hid (fun W => rwithin_any mark 1 200 W)
      have H2 := Lib.hid (fun W => rwithin_any k 1 10000 W)
      have H3 := Lib.hid (fun W => rwithin_any till 0 100000 W)
      have H4 := Lib.hid (fun W => rwithin_any from' 0 till W)
      have hs := step _ _ _ _ rfl rfl rfl rfl
      clear step hbad
      generalize decide (Btw mark 1 200) = b1 at *
      generalize decide (Btw k 1 10000) = b2 at *
      generalize decide (Btw till 0 100000) = b3 at *
      generalize decide (Btw from' 0 till) = b4 at *
      cases b1 <;> cases b2 <;> cases b3 <;> cases b4 <;> first | (exact absurd hs (by decide)) | (
        clear hs
        go_enter Tryd.func69, Tryd.ntmps69
        go_wp2_with fail
        refine calls_after HV.out ?_
        intro x1
        go_wp2_with (go_at_call 59; (first | (with_reducible refine (H1.out _).mono ?_) | (with_reducible refine (H2.out _).mono ?_) | (with_reducible refine (H3.out _).mono ?_) | (with_reducible refine (H4.out _).mono ?_)); rintro e w9 ⟨rfl, rfl⟩)
        go_returns
        exact ⟨⟨_, _, rfl, rfl, rfl⟩, by (repeat' (first | (with_reducible exact Below.refl _ _) | (with_reducible assumption) | (with_reducible refine Below.alloc ?_ ?_ _) | (with_reducible refine Below.drew ?_) | (with_reducible refine below_drewN ?_ _) | (with_reducible refine Below.setCell ?_ ?_ _) | (with_reducible refine below_after ?_ ?_ _) | (with_reducible refine below_set ?_) | (with_reducible refine After.size_le _ ?_) | (with_reducible refine size_alloc_le ?_) | (with_reducible refine size_set_le ?_) | (with_reducible refine size_drewN_le ?_) | go_size))⟩)
    · obtain ⟨h1, h2, h3⟩ := of_decide_eq_true hr
      have hcs := (of_decide_eq_true hk).1
      have H1 := Lib.hid (fun W => rwithin_b mark 1 200 W (decide_eq_true h1))
      have H2 := Lib.hid (fun W => rwithin_b k 1 10000 W (decide_eq_true h2))
      unfold Wth at h3
      have H3 := Lib.hid (fun W => rwithin_b till 0 100000 W (decide_eq_true (by unfold Btw; omega)))
      have H4 := Lib.hid (fun W => rwithin_b from' 0 till W (decide_eq_true (by unfold Btw; omega)))
      unfold Btw at h1 h2
      have HFi := Lib.hid (fun (m : Int) W (hW : Below w.heap.size w W) => rfine_any a n cap fr to lo hi m mark s W (hA.on hW) hn hcs)
      have hWn : ∀ e v, WnS n fr to lo hi mark s k from' till e v = WAns (fun m => fnB n fr to lo hi mark s m = true) k from' till e v := fun e v => by
        unfold WnS
        rw [hk, hr]
        rfl
      simp only [hWn]
      have HSt : Hid (RInv (fun m => fnB n fr to lo hi mark s m = true) k from' till from' 0) := Lib.hid (RInv.start h2.1)
      clear hA hk hr hWn hcs
      generalize fnB n fr to lo hi mark s = g at *
      go_enter Tryd.func69, Tryd.ntmps69
      go_wp2_with fail
      refine calls_after HV.out ?_
      intro x1
      go_wp2_with (go_at_call 59; (first | (with_reducible refine (H1.out _).mono ?_) | (with_reducible refine (H2.out _).mono ?_) | (with_reducible refine (H3.out _).mono ?_) | (with_reducible refine (H4.out _).mono ?_)); rintro e w9 ⟨rfl, rfl⟩)
      clear H1 H2 H3 H4 HV
      go_loopw [14, 15] (fun r t wr => ∃ (row tt : Int), r = .int .i64 row ∧ t = .int .i64 tt ∧ Hid (RInv (fun m => g m = true) k from' till tt row) ∧ from' ≤ tt ∧ tt ≤ till ∧ 0 ≤ row ∧ row < k ∧ ∃ x : After w, wr = x.w) (fun _ t _ => (till - intOf t).toNat)
      case atStart => exact ⟨0, from', rfl, rfl, HSt, by omega, by omega, by omega, by omega, x1, rfl⟩
      case round =>
        obtain ⟨row, t, rfl, rfl, HI, ht1, ht2, hr0, hrk, x, rfl⟩ := hrel
        by_cases hlt : t < till
        · cases hz : g t
          · have HN := Lib.hid (HI.out.no (by simp [hz]))
            go_wp2_with fail
            refine (HFi.out t x.w x.out).mono ?_
            rw [hz]
            rintro e w2 ⟨rfl, hw2⟩
            obtain ⟨y, rfl⟩ : ∃ y : After w, w2 = y.w := ⟨⟨w2, x.out.trans (hw2.mono x.out.size)⟩, rfl⟩
            clear hw2
            go_wp2
            go_roundw
            case rel => exact ⟨0, t + 1, rfl, by first | rfl | go_num, HN, by omega, by omega, by omega, by omega, y, rfl⟩
            case measure => simp [intOf]; omega
          · by_cases hk' : row + 1 = k
            · have HN := Lib.hid (HI.out.found (by simp [hz]) hlt hk')
              have hkb : ((row + 1) == k) = true := beq_iff_eq.2 hk'
              clear hk'
              go_wp2_with fail
              refine (HFi.out t x.w x.out).mono ?_
              rw [hz]
              rintro e w2 ⟨rfl, hw2⟩
              obtain ⟨y, rfl⟩ : ∃ y : After w, w2 = y.w := ⟨⟨w2, x.out.trans (hw2.mono x.out.size)⟩, rfl⟩
              clear hw2
              go_wp2
              go_returns
              exact ⟨⟨_, _, rfl, HN.out⟩, by (repeat' (first | (with_reducible exact Below.refl _ _) | (with_reducible assumption) | (with_reducible refine Below.alloc ?_ ?_ _) | (with_reducible refine Below.drew ?_) | (with_reducible refine below_drewN ?_ _) | (with_reducible refine Below.setCell ?_ ?_ _) | (with_reducible refine below_after ?_ ?_ _) | (with_reducible refine below_set ?_) | (with_reducible refine After.size_le _ ?_) | (with_reducible refine size_alloc_le ?_) | (with_reducible refine size_set_le ?_) | (with_reducible refine size_drewN_le ?_) | go_size))⟩
            · have HN := Lib.hid (HI.out.stay (by simp [hz]) hk')
              have hkb : ((row + 1) == k) = false := beq_eq_false_iff_ne.2 hk'
              go_wp2_with fail
              refine (HFi.out t x.w x.out).mono ?_
              rw [hz]
              rintro e w2 ⟨rfl, hw2⟩
              obtain ⟨y, rfl⟩ : ∃ y : After w, w2 = y.w := ⟨⟨w2, x.out.trans (hw2.mono x.out.size)⟩, rfl⟩
              clear hw2
              go_wp2
              go_roundw
              case rel => exact ⟨row + 1, t + 1, by first | rfl | go_num, by first | rfl | go_num, HN, by omega, by omega, by omega, by omega, y, rfl⟩
              case measure => simp [intOf]; omega
        · have HN := Lib.hid (HI.out.none (by omega))
          go_wp2
          go_returns
          exact ⟨⟨_, _, rfl, HN.out⟩, by (repeat' (first | (with_reducible exact Below.refl _ _) | (with_reducible assumption) | (with_reducible refine Below.alloc ?_ ?_ _) | (with_reducible refine Below.drew ?_) | (with_reducible refine below_drewN ?_ _) | (with_reducible refine Below.setCell ?_ ?_ _) | (with_reducible refine below_after ?_ ?_ _) | (with_reducible refine below_set ?_) | (with_reducible refine After.size_le _ ?_) | (with_reducible refine size_alloc_le ?_) | (with_reducible refine size_set_le ?_) | (with_reducible refine size_drewN_le ?_) | go_size))⟩
set_option maxRecDepth 100000 in
theorem rsure_say (a : Option Addr) (n cap : Nat) (fr to lo hi : Nat → Int) (mark k from' till : Int) (w : World) (hA : CAt w a n fr to lo hi) (hn : n ≤ 9223372036854775807) :
    Calls Tryd.prog 39 #[.slice a n cap, .int .i64 mark, .int .i64 k, .int .i64 from', .int .i64 till] w fun e w' => (∃ v e', e = .returned (.tuple #[.int .i64 v, .int .i64 e']) ∧ WnS n fr to lo hi mark true k from' till e' v) ∧ Below w.heap.size w w' := by
  have HS := Lib.hid (rwindow_say a n cap fr to lo hi mark k from' till true w hA hn)
  clear hA
  go_enter Tryd.func39, Tryd.ntmps39
  go_wp2_with fail
  refine (HS.out).mono ?_
  rintro e w2 ⟨⟨v, e', rfl, h2⟩, h3⟩
  have H2 := Lib.hid h2
  have H3 := Lib.hid h3
  clear h2 h3
  go_wp2
  go_returns
  exact ⟨⟨_, _, rfl, H2.out⟩, H3.out⟩
set_option maxRecDepth 100000 in
theorem rmaybe_say (a : Option Addr) (n cap : Nat) (fr to lo hi : Nat → Int) (mark k from' till : Int) (w : World) (hA : CAt w a n fr to lo hi) (hn : n ≤ 9223372036854775807) :
    Calls Tryd.prog 43 #[.slice a n cap, .int .i64 mark, .int .i64 k, .int .i64 from', .int .i64 till] w fun e w' => (∃ v e', e = .returned (.tuple #[.int .i64 v, .int .i64 e']) ∧ WnS n fr to lo hi mark false k from' till e' v) ∧ Below w.heap.size w w' := by
  have HS := Lib.hid (rwindow_say a n cap fr to lo hi mark k from' till false w hA hn)
  clear hA
  go_enter Tryd.func43, Tryd.ntmps43
  go_wp2_with fail
  refine (HS.out).mono ?_
  rintro e w2 ⟨⟨v, e', rfl, h2⟩, h3⟩
  have H2 := Lib.hid h2
  have H3 := Lib.hid h3
  clear h2 h3
  go_wp2
  go_returns
  exact ⟨⟨_, _, rfl, H2.out⟩, H3.out⟩
end Go.Proofs.YtlnlgboeohfpdaaDoor
