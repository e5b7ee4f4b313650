/- A window in the program. -/
import Derived.Test.YtlnlgboeohfpdaaTwWvw
import Derived.Test.YtlnlgboeohfpdaaTwWdn
namespace Go.Proofs.Ytlnlgboeohfpdaa.Tw
open Go.Proofs.Ytlnlgboeohfpdaa
open Go.RowKit Go.Shelf
attribute [local go_sem] Oper.semAt_some

def RngOk (mark k from' till : Int) : Prop := Btw mark 1 200 ∧ Btw k 1 10000 ∧ Wth from' till 100000
instance (mark k from' till : Int) : Decidable (RngOk mark k from' till) := by unfold RngOk; infer_instance
/-- What Sure and Maybe answer. -/
def WnS (n : Nat) (fr to lo hi : Nat → Int) (mark : Int) (s : Bool) (k from' till e v : Int) : Prop :=
  if decide (GoodCs n fr to lo hi) then if decide (RngOk mark k from' till) then WAns (fun m => fnB n fr to lo hi mark s m = true) k from' till e v else e = 7 ∧ v = 0 else e = 1 ∧ v = 0
theorem win_out {X : World} {R E : Nat} {k e : Int} {t0 t1 t2 t3 t4 t5 t6 t7 t8 t9 t10 t11 t14 t15 t16 t17 t18 t19 t20 t21 t22 t23 t24 t25 t26 t27 t28 t29 t30 t31 t32 t33 t34 t35 t36 t37 t38 t39 t40 t41 t42 t43 t44 t45 t46 t47 t48 t49 t50 t51 t52 t53 t54 t55 : Value} (h : X.cell? ⟨R, 0, none⟩ = some (.int .i64 k)) (he : X.cell? ⟨E, 0, none⟩ = some (.int .i64 e)) :
    (results Try.f18 #[t0, t1, t2, t3, t4, t5, t6, t7, t8, t9, t10, t11, (.pointer (some ⟨R, 0, none⟩)), (.pointer (some ⟨E, 0, none⟩)), t14, t15, t16, t17, t18, t19, t20, t21, t22, t23, t24, t25, t26, t27, t28, t29, t30, t31, t32, t33, t34, t35, t36, t37, t38, t39, t40, t41, t42, t43, t44, t45, t46, t47, t48, t49, t50, t51, t52, t53, t54, t55]).run Try.prog X = .ok (.tuple #[.int .i64 k, .int .i64 e]) X := by
  simp [results, Try.results18, go_sem, *]
/-- The call's boxes. -/
structure WBx (V : World) (B : Nat) (k till : Int) (F : Value) (r e : Int) : Prop where
  cn : V.cell? ⟨B, 0, none⟩ = some (.int .i64 k)
  ct : V.cell? ⟨B + 1, 0, none⟩ = some (.int .i64 till)
  ca : V.cell? ⟨B + 1 + 1, 0, none⟩ = some F
  cr : V.cell? ⟨B + 1 + 1 + 1, 0, none⟩ = some (.int .i64 r)
  ce : V.cell? ⟨B + 1 + 1 + 1 + 1, 0, none⟩ = some (.int .i64 e)
  zr : V.frozen? ⟨B + 1 + 1 + 1, 0, none⟩ = false
  ze : V.frozen? ⟨B + 1 + 1 + 1 + 1, 0, none⟩ = false
theorem WBx.lt {V : World} {B : Nat} {k till : Int} {F : Value} {r e : Int} (h : WBx V B k till F r e) : B + 5 ≤ V.heap.size := by
  have := World.block_lt_of_cell? V _ h.ce
  dsimp only at this
  omega
theorem WBx.fr {M : Nat → Prop} {V V' : World} {B : Nat} {k till : Int} {F : Value} {r e : Int} (h : WBx V B k till F r e) (hf : Fr M V V') (hM : ∀ j, B ≤ j → j < B + 5 → ¬ M j) : WBx V' B k till F r e := by
  have := h.lt
  exact ⟨hf.cell (p := ⟨B, 0, none⟩) (hM _ (by dsimp only; omega) (by dsimp only; omega)) h.cn, hf.cell (p := ⟨B + 1, 0, none⟩) (hM _ (by dsimp only; omega) (by dsimp only; omega)) h.ct, hf.cell (p := ⟨B + 1 + 1, 0, none⟩) (hM _ (by dsimp only; omega) (by dsimp only; omega)) h.ca, hf.cell (p := ⟨B + 1 + 1 + 1, 0, none⟩) (hM _ (by dsimp only; omega) (by dsimp only; omega)) h.cr, hf.cell (p := ⟨B + 1 + 1 + 1 + 1, 0, none⟩) (hM _ (by dsimp only; omega) (by dsimp only; omega)) h.ce,
    (hf.frozen (p := ⟨B + 1 + 1 + 1, 0, none⟩) (hM _ (by dsimp only; omega) (by dsimp only; omega)) (by dsimp only; omega)).trans h.zr, (hf.frozen (p := ⟨B + 1 + 1 + 1 + 1, 0, none⟩) (hM _ (by dsimp only; omega) (by dsimp only; omega)) (by dsimp only; omega)).trans h.ze⟩
theorem WBx.put {V : World} {B : Nat} {k till : Int} {F : Value} {r e : Int} (h : WBx V B k till F r e) (r' e' : Int) (w : World) (hb : Below w.heap.size w V) (hB : w.heap.size ≤ B) :
    ∃ X, (V.setCell ⟨B + 1 + 1 + 1, 0, none⟩ (.int .i64 r')).setCell ⟨B + 1 + 1 + 1 + 1, 0, none⟩ (.int .i64 e') = X ∧ X.cell? ⟨B + 1 + 1 + 1, 0, none⟩ = some (.int .i64 r') ∧ X.cell? ⟨B + 1 + 1 + 1 + 1, 0, none⟩ = some (.int .i64 e') ∧ Below w.heap.size w X ∧ (∀ M : Nat → Prop, M (B + 1 + 1 + 1) → M (B + 1 + 1 + 1 + 1) → Fr M V X) := by
  have d : (⟨B + 1 + 1 + 1 + 1, 0, none⟩ : Addr) ≠ ⟨B + 1 + 1 + 1, 0, none⟩ := fun h => by
    have := congrArg Addr.block h
    dsimp only at this
    omega
  refine ⟨_, rfl, ?_, ?_, (hb.setCell (by dsimp only; omega) _).setCell (by dsimp only; omega) _, fun M h1 h2 => ((Fr.refl V).setCell (.inl h1) _).setCell (.inl h2) _⟩
  · rw [World.cell?_setCell_other _ _ _ _ d]
    exact World.cell?_setCell_same _ _ _ h.cr
  · exact World.cell?_setCell_same _ _ _ ((World.cell?_setCell_other V _ _ _ (Ne.symm d)).trans h.ce)
theorem win_boxes (k till : Int) (F : Value) (w w1 : World) (hb : Below (((((w.alloc (.cells #[.int .i64 k] 3)).alloc (.cells #[.int .i64 till] 3)).alloc (.cells #[F] 49)).alloc (.cells #[.int .i64 0] 3)).alloc (.cells #[.int .i64 0] 31)).heap.size
      (((((w.alloc (.cells #[.int .i64 k] 3)).alloc (.cells #[.int .i64 till] 3)).alloc (.cells #[F] 49)).alloc (.cells #[.int .i64 0] 3)).alloc (.cells #[.int .i64 0] 31)) w1) :
    Below w.heap.size w w1 ∧ WBx w1 w.heap.size k till F 0 0 := by
  have hf : Fr (fun _ => False) _ w1 := fr_below hb
  have hs := hb.size
  simp only [World.size_alloc] at hs
  refine ⟨(by (repeat' (first | (with_reducible exact Below.refl _ _) | (with_reducible assumption) | (with_reducible refine Below.alloc ?_ ?_ _) | (with_reducible refine Below.drew ?_) | (with_reducible refine below_drewN ?_ _) | (with_reducible refine Below.setCell ?_ ?_ _) | (with_reducible refine below_after ?_ ?_ _) | (with_reducible refine below_set ?_) | (with_reducible refine After.size_le _ ?_) | (with_reducible refine size_alloc_le ?_) | (with_reducible refine size_set_le ?_) | (with_reducible refine size_drewN_le ?_) | go_size)) : Below w.heap.size w _).trans (hb.mono (by simp; omega)), hf.cell id (by simp [go_sem]), hf.cell id (by simp [go_sem]), hf.cell id (by simp [go_sem]), hf.cell id (by simp [go_sem]), hf.cell id (by simp [go_sem]), (hf.frozen (p := ⟨w.heap.size + 1 + 1 + 1, 0, none⟩) id (by simp)).trans (by simp [go_sem]), (hf.frozen (p := ⟨w.heap.size + 1 + 1 + 1 + 1, 0, none⟩) id (by simp)).trans (by simp [go_sem])⟩
/-- What a closure that asks says in every later world. -/
def AskW (w : World) (F : FuncId) (Bm : Nat) (mark : Int) (s : Bool) : Prop := ∀ W, Below w.heap.size w W → ∀ x0 x1 x2 x3 : Int, Calls Try.prog F #[.agg #[.int .i64 x0, .int .i64 x1, .int .i64 x2, .int .i64 x3], .pointer (some ⟨Bm, 0, none⟩)] W fun e w' => e = .returned (.bool (askC mark s x2 x3)) ∧ Below W.heap.size W w'
set_option maxRecDepth 100000 in
set_option maxHeartbeats 4000000 in
theorem window_err (F : FuncId) (Bm : Nat) (a : Option Addr) (n cap : Nat) (fr to lo hi : Nat → Int) (mark k from' till : Int) (w : World) (hA : CAt w a n fr to lo hi) (hn : n ≤ 9223372036854775807) (hbad : ¬ (GoodCs n fr to lo hi ∧ RngOk mark k from' till)) :
    Calls Try.prog 18 #[.slice a n cap, .int .i64 mark, .int .i64 k, .int .i64 from', .int .i64 till, .func (.func F) #[] #[.pointer (some ⟨Bm, 0, none⟩)]] w fun e w' => e = .returned (.tuple #[.int .i64 0, .int .i64 (if decide (GoodCs n fr to lo hi) then 7 else 1)]) ∧ Below w.heap.size w w' := by
  have HV := Lib.hid (validCasts_any a n cap fr to lo hi _ (hA.on (by (repeat' (first | (with_reducible exact Below.refl _ _) | (with_reducible assumption) | (with_reducible refine Below.alloc ?_ ?_ _) | (with_reducible refine Below.drew ?_) | (with_reducible refine below_drewN ?_ _) | (with_reducible refine Below.setCell ?_ ?_ _) | (with_reducible refine below_after ?_ ?_ _) | (with_reducible refine below_set ?_) | (with_reducible refine After.size_le _ ?_) | (with_reducible refine size_alloc_le ?_) | (with_reducible refine size_set_le ?_) | (with_reducible refine size_drewN_le ?_) | go_size)) : Below w.heap.size w (((((w.alloc (.cells #[.int .i64 k] 3)).alloc (.cells #[.int .i64 till] 3)).alloc (.cells #[.func (.func F) #[] #[.pointer (some ⟨Bm, 0, none⟩)]] 49)).alloc (.cells #[.int .i64 0] 3)).alloc (.cells #[.int .i64 0] 31)))) hn)
  cases hk : decide (GoodCs n fr to lo hi)
  · rw [hk] at HV
    rw [if_neg (by simp)]
    go_enter Try.func18, Try.ntmps18
    go_wp2_with fail
    refine HV.out.mono ?_
    rintro e w1 ⟨rfl, hb1⟩
    obtain ⟨hB1, hX1⟩ := win_boxes k till (.func (.func F) #[] #[.pointer (some ⟨Bm, 0, none⟩)]) w w1 hb1
    obtain ⟨X, hX, x1, x2, x3, _⟩ := hX1.put 0 1 w hB1 (Nat.le_refl _)
    obtain ⟨cn, ct, ca, cr, ce, zr, ze⟩ := hX1
    clear hb1
    go_wp2
    exact bodyPost_ret (win_out x1 x2) rfl ⟨rfl, x3⟩
  · rw [hk] at HV
    rw [if_pos rfl]
    have hr : ¬ RngOk mark k from' till := fun h => hbad ⟨of_decide_eq_true hk, h⟩
    unfold RngOk at hr
    by_cases h1 : Btw mark 1 200
    · by_cases h2 : Btw k 1 10000
      · by_cases h3 : Wth from' till 100000
        · exact absurd ⟨h1, h2, h3⟩ hr
        · have H1 := Lib.hid (fun W => between_b mark 1 200 W (decide_eq_true h1))
          have H2 := Lib.hid (fun W => between_b k 1 10000 W (decide_eq_true h2))
          have H3 := Lib.hid (fun W => within_b from' till 100000 W (decide_eq_false h3))
          clear hr h1 h2 h3 hbad hk
          go_enter Try.func18, Try.ntmps18
          go_wp2_with fail
          refine HV.out.mono ?_
          rintro e w1 ⟨rfl, hb1⟩
          obtain ⟨hB1, hX1⟩ := win_boxes k till (.func (.func F) #[] #[.pointer (some ⟨Bm, 0, none⟩)]) w w1 hb1
          obtain ⟨X, hX, x1, x2, x3, _⟩ := hX1.put 0 7 w hB1 (Nat.le_refl _)
          obtain ⟨cn, ct, ca, cr, ce, zr, ze⟩ := hX1
          clear hb1
          go_wp2_with (first | (go_at_call 17; (first | (with_reducible refine (H1.out _).mono ?_) | (with_reducible refine (H2.out _).mono ?_)); rintro e w9 ⟨rfl, rfl⟩) | (go_at_call 26; refine (H3.out _).mono ?_; rintro e w9 ⟨rfl, rfl⟩))
          exact bodyPost_ret (win_out x1 x2) rfl ⟨rfl, x3⟩
      · have H1 := Lib.hid (fun W => between_b mark 1 200 W (decide_eq_true h1))
        have H2 := Lib.hid (fun W => between_b k 1 10000 W (decide_eq_false h2))
        have H3 := H1
        clear hr h1 h2 hbad hk
        go_enter Try.func18, Try.ntmps18
        go_wp2_with fail
        refine HV.out.mono ?_
        rintro e w1 ⟨rfl, hb1⟩
        obtain ⟨hB1, hX1⟩ := win_boxes k till (.func (.func F) #[] #[.pointer (some ⟨Bm, 0, none⟩)]) w w1 hb1
        obtain ⟨X, hX, x1, x2, x3, _⟩ := hX1.put 0 7 w hB1 (Nat.le_refl _)
        obtain ⟨cn, ct, ca, cr, ce, zr, ze⟩ := hX1
        clear hb1
        go_wp2_with (first | (go_at_call 17; (first | (with_reducible refine (H1.out _).mono ?_) | (with_reducible refine (H2.out _).mono ?_)); rintro e w9 ⟨rfl, rfl⟩) | (go_at_call 26; refine (H3.out _).mono ?_; rintro e w9 ⟨rfl, rfl⟩))
        exact bodyPost_ret (win_out x1 x2) rfl ⟨rfl, x3⟩
    · have H1 := Lib.hid (fun W => between_b mark 1 200 W (decide_eq_false h1))
      have H2 := H1
      have H3 := H1
      clear hr h1 hbad hk
      go_enter Try.func18, Try.ntmps18
      go_wp2_with fail
      refine HV.out.mono ?_
      rintro e w1 ⟨rfl, hb1⟩
      obtain ⟨hB1, hX1⟩ := win_boxes k till (.func (.func F) #[] #[.pointer (some ⟨Bm, 0, none⟩)]) w w1 hb1
      obtain ⟨X, hX, x1, x2, x3, _⟩ := hX1.put 0 7 w hB1 (Nat.le_refl _)
      obtain ⟨cn, ct, ca, cr, ce, zr, ze⟩ := hX1
      clear hb1
      go_wp2_with (first | (go_at_call 17; (first | (with_reducible refine (H1.out _).mono ?_) | (with_reducible refine (H2.out _).mono ?_)); rintro e w9 ⟨rfl, rfl⟩) | (go_at_call 26; refine (H3.out _).mono ?_; rintro e w9 ⟨rfl, rfl⟩))
      exact bodyPost_ret (win_out x1 x2) rfl ⟨rfl, x3⟩
end Go.Proofs.Ytlnlgboeohfpdaa.Tw
