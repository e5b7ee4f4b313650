/- Sure and Maybe in both programs. -/
import Derived.Test.YtlnlgboeohfpdaaTwWvq
namespace Go.Proofs.Ytlnlgboeohfpdaa.Tw
open Go.Proofs.Ytlnlgboeohfpdaa
open Go.RowKit
section
attribute [local go_sem] After.cell After.frozen After.lt After.le After.ne After.ne' After.set_eq After.size_set After.lt_add

theorem ask_sure (w : World) (Bm : Nat) (mark : Int) (h : w.cell? ⟨Bm, 0, none⟩ = some (.int .i64 mark)) : AskW w 19 Bm mark true := by
  intro W hW x0 x1 x2 x3
  have hb : Bm < w.heap.size := World.block_lt_of_cell? w _ h
  have hs := hW.size
  have hc : W.cell? ⟨Bm, 0, none⟩ = some (.int .i64 mark) := (hW.cell (p := ⟨Bm, 0, none⟩) hb).trans h
  have hne : Bm ≠ W.heap.size := by omega
  have hlt : Bm < W.heap.size := by omega
  clear hW h
  go_enter Try.func19, Try.ntmps19
  go_wp2
  go_ret
  exact ⟨by simp [askC], by (repeat' (first | (with_reducible exact Below.refl _ _) | (with_reducible assumption) | (with_reducible refine Below.alloc ?_ ?_ _) | (with_reducible refine Below.drew ?_) | (with_reducible refine below_drewN ?_ _) | (with_reducible refine Below.setCell ?_ ?_ _) | (with_reducible refine below_after ?_ ?_ _) | (with_reducible refine below_set ?_) | (with_reducible refine After.size_le _ ?_) | (with_reducible refine size_alloc_le ?_) | (with_reducible refine size_set_le ?_) | (with_reducible refine size_drewN_le ?_) | go_size))⟩
theorem window_say (F : FuncId) (Bm : Nat) (eF : ∀ args w, (callFunc F args).run Try.prog w = .ok (.enter F args) w) (a : Option Addr) (n cap : Nat) (fr to lo hi : Nat → Int) (mark k from' till : Int) (s : Bool) (w : World) (hA : CAt w a n fr to lo hi) (hn : n ≤ 9223372036854775807) (hF : AskW w F Bm mark s) :
    Calls Try.prog 18 #[.slice a n cap, .int .i64 mark, .int .i64 k, .int .i64 from', .int .i64 till, .func (.func F) #[] #[.pointer (some ⟨Bm, 0, none⟩)]] w fun e w' => (∃ v e', e = .returned (.tuple #[.int .i64 v, .int .i64 e']) ∧ WnS n fr to lo hi mark s k from' till e' v) ∧ Below w.heap.size w w' := by
  by_cases h : GoodCs n fr to lo hi ∧ RngOk mark k from' till
  · refine (window_ok F Bm eF a n cap fr to lo hi mark k from' till s w hA hn h.1 h.2 hF).mono ?_
    rintro e w' ⟨⟨v, e', h1, h2⟩, h3⟩
    exact ⟨⟨v, e', h1, by unfold WnS; rw [decide_eq_true h.1, decide_eq_true h.2]; exact h2⟩, h3⟩
  · refine (window_err F Bm a n cap fr to lo hi mark k from' till w hA hn h).mono ?_
    rintro e w' ⟨h1, h3⟩
    refine ⟨⟨_, _, h1, ?_⟩, h3⟩
    unfold WnS
    cases hk : decide (GoodCs n fr to lo hi)
    · exact ⟨rfl, rfl⟩
    · have : ¬ RngOk mark k from' till := fun hr => h ⟨of_decide_eq_true hk, hr⟩
      rw [decide_eq_false this]
      exact ⟨rfl, rfl⟩
set_option maxRecDepth 100000 in
theorem sure_say (a : Option Addr) (n cap : Nat) (fr to lo hi : Nat → Int) (mark k from' till : Int) (w : World) (hA : CAt w a n fr to lo hi) (hn : n ≤ 9223372036854775807) :
    Calls Try.prog 10 #[.slice a n cap, .int .i64 mark, .int .i64 k, .int .i64 from', .int .i64 till] w fun e w' => (∃ v e', e = .returned (.tuple #[.int .i64 v, .int .i64 e']) ∧ WnS n fr to lo hi mark true k from' till e' v) ∧ Below w.heap.size w w' := by
  have HS := Lib.hid (window_say 19 w.heap.size (enters_of Try.func19 (by kernel_rfl) rfl) a n cap fr to lo hi mark k from' till true (w.alloc (.cells #[.int .i64 mark] 3)) (hA.on (by (repeat' (first | (with_reducible exact Below.refl _ _) | (with_reducible assumption) | (with_reducible refine Below.alloc ?_ ?_ _) | (with_reducible refine Below.drew ?_) | (with_reducible refine below_drewN ?_ _) | (with_reducible refine Below.setCell ?_ ?_ _) | (with_reducible refine below_after ?_ ?_ _) | (with_reducible refine below_set ?_) | (with_reducible refine After.size_le _ ?_) | (with_reducible refine size_alloc_le ?_) | (with_reducible refine size_set_le ?_) | (with_reducible refine size_drewN_le ?_) | go_size)))) hn (ask_sure _ _ _ (by simp [go_sem])))
  clear hA
  go_enter Try.func10, Try.ntmps10
  go_wp2_with fail
  refine (HS.out).mono ?_
  rintro e w2 ⟨⟨v, e', rfl, h2⟩, h3⟩
  have H2 := Lib.hid h2
  have H3 := Lib.hid h3
  clear h2 h3
  go_wp2
  go_returns
  exact ⟨⟨_, _, rfl, H2.out⟩, (by (repeat' (first | (with_reducible exact Below.refl _ _) | (with_reducible assumption) | (with_reducible refine Below.alloc ?_ ?_ _) | (with_reducible refine Below.drew ?_) | (with_reducible refine below_drewN ?_ _) | (with_reducible refine Below.setCell ?_ ?_ _) | (with_reducible refine below_after ?_ ?_ _) | (with_reducible refine below_set ?_) | (with_reducible refine After.size_le _ ?_) | (with_reducible refine size_alloc_le ?_) | (with_reducible refine size_set_le ?_) | (with_reducible refine size_drewN_le ?_) | go_size)) : Below w.heap.size w _).trans (H3.out.mono (by simp))⟩
end
end Go.Proofs.Ytlnlgboeohfpdaa.Tw
