/- The eighth reference's Format and Parse. -/
import Derived.Test.YtmhjahljilaijaaDoorSxMat
namespace Go.Proofs.YtmhjahljilaijaaDoor.Tx
open Go.Proofs.YtmhjahljilaijaaDoor
open Go.RowKit
attribute [local go_sem] After.cell After.frozen After.lt After.le After.ne After.ne' After.set_eq After.size_set After.lt_add tx_size tx_toList

theorem txb_tx (l : List UInt8) : txb l = tx l := rfl
theorem gws_ne {f : Nat → Int} {k : Nat} (h : 0 < k) : gws f k ≠ [] := fun e => by have := congrArg List.length e; rw [gws_len] at this; simp at this; omega
/-- The text of the first gusts. -/
def jn (f : Nat → Int) (k : Nat) : List UInt8 := Lib.join (gws f k) [32]
theorem jn_next (f : Nat → Int) {k : Nat} (h : 0 < k) : jn f (k + 1) = (jn f k ++ [32]) ++ gw (f k) := by
  unfold jn
  rw [gws_succ, join_snoc _ _ (gws_ne h)]
  simp
theorem jn_one (f : Nat → Int) : jn f 1 = [] ++ gw (f 0) := by
  unfold jn
  rw [gws_succ]
  exact join_one _
theorem jn_len {f : Nat → Int} {n : Nat} (h : GoodG n f) {k : Nat} (hk : k ≤ n) : (jn f k).length ≤ k * 21 := by
  have := join_len [32] (by simp) (gws f k) (fun x hx => by
    obtain ⟨i, hi, rfl⟩ := List.mem_map.1 hx
    exact gw_len (h.2 i (by have := List.mem_range.1 hi; omega)))
  rw [gws_len] at this
  exact this
set_option maxRecDepth 100000 in
set_option maxHeartbeats 2000000 in
theorem rformat_any (a : Option Addr) (n cap : Nat) (f : Nat → Int) (w : World) (hA : IAt w a n f) (hn : n ≤ 9223372036854775807) :
    Calls Tryd.prog 9 #[.slice a n cap] w fun e w' => e = .returned (.string (tx (formG n f))) ∧ Below w.heap.size w w' := by
  have HV := Lib.hid (rvalidGusts_any a n cap f w hA hn)
  have HA := Lib.hid hA
  have e00 : (⟨#[]⟩ : ByteArray) = tx [] := rfl
  have e32 : (⟨#[32]⟩ : ByteArray) = tx [32] := rfl
  have e45 : (⟨#[45]⟩ : ByteArray) = tx [45] := rfl
  unfold formG
  by_cases hG : GoodG n f
  · rw [decide_eq_true hG] at HV
    rw [if_pos hG]
    have hn2 := hG.1
    have hnI : (n : Int) ≤ 2000 := by omega
    have HG := Lib.hid hG
    clear hG hA
    go_enter Tryd.func9, Tryd.ntmps9
    go_wp2_with fail
    refine calls_after HV.out ?_
    intro x1
    go_wp2
    go_loopw [3, 4] (fun t i wr => ∃ k : Nat, k ≤ n ∧ i = .int .i64 k ∧ t = .string (tx (jn f k)) ∧ ∃ x : After w, wr = x.w) (fun _ i _ => n - (intOf i).toNat)
    case atStart => exact ⟨0, by omega, rfl, rfl, x1, rfl⟩
    case round =>
      obtain ⟨k, hk, rfl, rfl, y, rfl⟩ := hrel
      by_cases hlt : k < n
      · have hlti : (k : Int) < (n : Int) := by omega
        obtain ⟨b, off, rfl, hb, hc⟩ := HA.out k hlt
        have hok := HG.out.2 k hlt
        have hjl := jn_len HG.out hk
        rcases Nat.eq_zero_or_pos k with rfl | h0
        · have HN := Lib.hid (jn_one f)
          have ej : jn f 0 = [] := rfl
          rw [ej]
          rw [Nat.add_zero] at hc
          by_cases hneg : f 0 < 0
          · have hx1 : f 0 = -1 := by unfold OkG Btw at hok; omega
            have hg : gw (f 0) = [45] := by unfold gw; rw [if_pos hx1]
            have dn : decide (f 0 < 0) = true := decide_eq_true hneg
            rw [hg] at HN
            have hadd : ∀ w : World, (Op.stringOp .add (tx []) (tx [45])).run Tryd.prog w = .ok (.string (tx ([] ++ [45]))) w := fun w => run_tx_add w [] [45] (by simp) (by simp)
            clear hx1 hg hok hneg
            generalize f 0 = x at *
            go_wp2
            go_roundw
            case rel => exact ⟨1, by omega, by first | rfl | go_num, by rw [HN.out]; rfl, y, rfl⟩
            case measure => simp [intOf]; omega
          · have hg : gw (f 0) = Lib.itoa (f 0) := by unfold gw; rw [if_neg (by omega)]
            have dn : decide (f 0 < 0) = false := decide_eq_false hneg
            have hi64 : (Lib.itoa (f 0)).length ≤ 20 := by unfold OkG Btw at hok; exact itoaw_len (by omega) (by omega)
            have HD := Lib.hid (fun W => dig6_any (f 0) (by unfold OkG Btw at hok; omega) (by unfold OkG Btw at hok; omega) W)
            rw [hg] at HN
            generalize Lib.itoa (f 0) = D at *
            have hadd : ∀ w : World, (Op.stringOp .add (tx []) (tx D)).run Tryd.prog w = .ok (.string (tx ([] ++ D))) w := fun w => run_tx_add w [] D (by simp) (by omega)
            clear hg hok hneg
            generalize f 0 = x at *
            go_wp2_with fail
            refine (HD.out _).mono ?_
            rintro e w2 ⟨rfl, hw2⟩
            obtain ⟨u, rfl⟩ : ∃ u : After w, w2 = u.w := ⟨⟨w2, y.out.trans (hw2.mono y.out.size)⟩, rfl⟩
            clear hw2
            go_wp2
            go_roundw
            case rel => exact ⟨1, by omega, by first | rfl | go_num, by rw [HN.out]; rfl, u, rfl⟩
            case measure => simp [intOf]; omega
        · have HN := Lib.hid (jn_next f h0)
          have dk : decide ((0 : Int) < (k : Int)) = true := decide_eq_true (by omega)
          have hadd0 : ∀ w : World, (Op.stringOp .add (tx (jn f k)) (tx [32])).run Tryd.prog w = .ok (.string (tx (jn f k ++ [32]))) w := fun w => run_tx_add w _ [32] (by omega) (by simp)
          have hPl : (jn f k ++ [32]).length ≤ 50000 := by rw [List.length_append]; simp; omega
          generalize jn f k = P0 at *
          generalize P0 ++ [32] = P at *
          by_cases hneg : f k < 0
          · have hx1 : f k = -1 := by unfold OkG Btw at hok; omega
            have hg : gw (f k) = [45] := by unfold gw; rw [if_pos hx1]
            have dn : decide (f k < 0) = true := decide_eq_true hneg
            rw [hg] at HN
            have hadd : ∀ w : World, (Op.stringOp .add (tx P) (tx [45])).run Tryd.prog w = .ok (.string (tx (P ++ [45]))) w := fun w => run_tx_add w P [45] (by omega) (by simp)
            clear hx1 hg hok hneg
            generalize f k = x at *
            go_wp2
            go_roundw
            case rel => exact ⟨k + 1, by omega, by first | rfl | go_num, by rw [HN.out], y, rfl⟩
            case measure => simp [intOf]; omega
          · have hg : gw (f k) = Lib.itoa (f k) := by unfold gw; rw [if_neg (by omega)]
            have dn : decide (f k < 0) = false := decide_eq_false hneg
            have hi64 : (Lib.itoa (f k)).length ≤ 20 := by unfold OkG Btw at hok; exact itoaw_len (by omega) (by omega)
            have HD := Lib.hid (fun W => dig6_any (f k) (by unfold OkG Btw at hok; omega) (by unfold OkG Btw at hok; omega) W)
            rw [hg] at HN
            generalize Lib.itoa (f k) = D at *
            have hadd : ∀ w : World, (Op.stringOp .add (tx P) (tx D)).run Tryd.prog w = .ok (.string (tx (P ++ D))) w := fun w => run_tx_add w P D (by omega) (by omega)
            clear hg hok hneg
            generalize f k = x at *
            go_wp2_with fail
            refine (HD.out _).mono ?_
            rintro e w2 ⟨rfl, hw2⟩
            obtain ⟨u, rfl⟩ : ∃ u : After w, w2 = u.w := ⟨⟨w2, y.out.trans (hw2.mono y.out.size)⟩, rfl⟩
            clear hw2
            go_wp2
            go_roundw
            case rel => exact ⟨k + 1, by omega, by first | rfl | go_num, by rw [HN.out], u, rfl⟩
            case measure => simp [intOf]; omega
      · obtain rfl : k = n := by omega
        go_wp2
        go_ret
        exact ⟨rfl, by (repeat' (first | (with_reducible exact Below.refl _ _) | (with_reducible assumption) | (with_reducible refine Below.alloc ?_ ?_ _) | (with_reducible refine Below.drew ?_) | (with_reducible refine below_drewN ?_ _) | (with_reducible refine Below.setCell ?_ ?_ _) | (with_reducible refine below_after ?_ ?_ _) | (with_reducible refine below_set ?_) | (with_reducible refine After.size_le _ ?_) | (with_reducible refine size_alloc_le ?_) | (with_reducible refine size_set_le ?_) | (with_reducible refine size_drewN_le ?_) | go_size))⟩
  · rw [decide_eq_false hG] at HV
    rw [if_neg hG]
    clear hA
    go_enter Tryd.func9, Tryd.ntmps9
    go_wp2_with fail
    refine calls_after HV.out ?_
    intro x1
    go_wp2
    go_ret
    exact ⟨rfl, by (repeat' (first | (with_reducible exact Below.refl _ _) | (with_reducible assumption) | (with_reducible refine Below.alloc ?_ ?_ _) | (with_reducible refine Below.drew ?_) | (with_reducible refine below_drewN ?_ _) | (with_reducible refine Below.setCell ?_ ?_ _) | (with_reducible refine below_after ?_ ?_ _) | (with_reducible refine below_set ?_) | (with_reducible refine After.size_le _ ?_) | (with_reducible refine size_alloc_le ?_) | (with_reducible refine size_set_le ?_) | (with_reducible refine size_drewN_le ?_) | go_size))⟩
/-- Where a row's texts lie. -/
def TRw (W : World) (a : Option Addr) (ws : List (List UInt8)) : Prop := ∀ k (h : k < ws.length), ∃ g, a = some ⟨g, 0, none⟩ ∧ g < W.heap.size ∧ W.cell? ⟨g, k, none⟩ = some (.string (tx ws[k]))
theorem TRw.on {W V : World} {a : Option Addr} {ws : List (List UInt8)} (h : TRw W a ws) (hb : Below W.heap.size W V) : TRw V a ws := fun k hk => by
  obtain ⟨g, e, h1, h2⟩ := h k hk
  exact ⟨g, e, Nat.lt_of_lt_of_le h1 hb.size, (hb.cell (p := ⟨g, k, none⟩) h1).trans h2⟩
theorem trow_of {W : World} {B : Nat} {a : Option Addr} {cap : Nat} {ws : List (List UInt8)} (h : W.ownsRow B 9 1 (.slice a ws.length cap) ws.length (wvs ws)) : TRw W a ws := fun k hk => by
  obtain ⟨g, c, e⟩ := Go.Joins.ownsRow_form h (by omega)
  cases e
  refine ⟨g, rfl, (h.lt g rfl).2, ?_⟩
  rw [h.cellAt _ (by omega)]
  simp [wvs, hk]
theorem strNotInt : 9 ≠ 3 := by decide
theorem owns_two {W W' : World} {B : Nat} {v v' : Value} {n n' : Nat} {xs xs' : List Value} {o : Obj} (h : W.ownsRow B 9 1 v n xs) (h' : W.ownsRow B 3 1 v' n' xs') (hg : (W.alloc o).grownBy W' v'.ownBlock) : W'.ownsRow B 9 1 v n xs := by
  obtain ⟨h1, h2 | ⟨g, cap, cur, a1, a2, a3, a4⟩⟩ := h
  · exact ⟨h1, .inl h2⟩
  · have hlt := (Array.getElem?_eq_some_iff.1 a3).1
    refine ⟨h1, .inr ⟨g, cap, cur, a1, a2, ?_, a4⟩⟩
    refine (hg.block g (by simp; omega) (fun e => ?_)).trans ((Below.heap_alloc _ _ _ hlt).trans a3)
    rcases h'.2 with ⟨rfl, _⟩ | ⟨g', c', cur', rfl, _, b3, _⟩
    · cases e
    · cases e
      rw [a3] at b3
      simp only [Option.some.injEq, Obj.cells.injEq] at b3
      exact strNotInt b3.2.1
theorem okW_num {s : List UInt8} {N : Int} (h : In15 N) (hs : Lib.itoa N = s) (h0 : 0 ≤ N) (h45 : s ≠ [45]) : OkW s ∧ rgF s = N := by
  subst hs
  exact ⟨.inr ⟨N, h0, h, rfl⟩, rgF_itoa h0 h h45⟩
theorem notOk_neg {s : List UInt8} {N : Int} (h : In15 N) (hs : Lib.itoa N = s) (h0 : N < 0) (h45 : s ≠ [45]) : ¬ OkW s := by
  rintro (h1 | ⟨x, h2, h3, h4⟩)
  · exact h45 h1
  · have := itoa_inj h3 h (h4.trans hs.symm)
    omega
theorem notOk_no {s : List UInt8} (h : ∀ n, In15 n → Lib.itoa n ≠ s) (h45 : s ≠ [45]) : ¬ OkW s := by
  rintro (h1 | ⟨x, h2, h3, h4⟩)
  · exact h45 h1
  · exact h x h3 h4
theorem rgs_take {ws : List (List UInt8)} {k : Nat} (h : k < ws.length) : rgs (ws.take (k + 1)) = rgs (ws.take k) ++ [rgF ws[k]] := by
  rw [← List.take_append_getElem h, rgs_snoc]
set_option maxRecDepth 100000 in
set_option maxHeartbeats 1000000 in
theorem rparse_long (s : List UInt8) (w : World) (hs : 65536 < s.length) (hs2 : s.length ≤ 1000000000) :
    Calls Tryd.prog 8 #[.string (tx s)] w fun e w' => e = .returned (.tuple #[.slice none 0 0, .int .i64 3]) ∧ Below w.heap.size w w' := by
  have hz : (tx s).size = s.length := tx_size s
  have d1 : decide ((65536 : Int) < (s.length : Int)) = true := decide_eq_true (by omega)
  have hi : (s.length : Int) ≤ 1000000000 := by omega
  clear hs hs2
  go_enter Tryd.func8, Tryd.ntmps8
  go_wp2
  go_returns
  exact ⟨rfl, by (repeat' (first | (with_reducible exact Below.refl _ _) | (with_reducible assumption) | (with_reducible refine Below.alloc ?_ ?_ _) | (with_reducible refine Below.drew ?_) | (with_reducible refine below_drewN ?_ _) | (with_reducible refine Below.setCell ?_ ?_ _) | (with_reducible refine below_after ?_ ?_ _) | (with_reducible refine below_set ?_) | (with_reducible refine After.size_le _ ?_) | (with_reducible refine size_alloc_le ?_) | (with_reducible refine size_set_le ?_) | (with_reducible refine size_drewN_le ?_) | go_size))⟩
set_option maxRecDepth 100000 in
theorem rparse_none (w : World) :
    Calls Tryd.prog 8 #[.string (tx [])] w fun e w' => e = .returned (.tuple #[.slice none 0 0, .int .i64 0]) ∧ Below w.heap.size w w' := by
  have e0 : (⟨#[]⟩ : ByteArray) = tx [] := rfl
  have hz : (tx []).size = 0 := rfl
  go_enter Tryd.func8, Tryd.ntmps8
  go_wp2
  go_returns
  exact ⟨rfl, by (repeat' (first | (with_reducible exact Below.refl _ _) | (with_reducible assumption) | (with_reducible refine Below.alloc ?_ ?_ _) | (with_reducible refine Below.drew ?_) | (with_reducible refine below_drewN ?_ _) | (with_reducible refine Below.setCell ?_ ?_ _) | (with_reducible refine below_after ?_ ?_ _) | (with_reducible refine below_set ?_) | (with_reducible refine After.size_le _ ?_) | (with_reducible refine size_alloc_le ?_) | (with_reducible refine size_set_le ?_) | (with_reducible refine size_drewN_le ?_) | go_size))⟩
set_option maxRecDepth 100000 in
set_option maxHeartbeats 4000000 in
theorem rparse_words (s : List UInt8) (w : World) (hs : s.length ≤ 65536) (h0 : s ≠ []) (b : Bool) (hb : b = true ↔ GB s) :
    Calls Tryd.prog 8 #[.string (tx s)] w fun e w' => PWd w w' (wordsL 32 s) b e ∧ Below w.heap.size w w' := by
  have e0 : (⟨#[]⟩ : ByteArray) = tx [] := rfl
  have e45 : (⟨#[45]⟩ : ByteArray) = tx [45] := rfl
  have hz : (tx s).size = s.length := tx_size s
  have hne : (s == []) = false := beq_eq_false_iff_ne.2 h0
  have d1 : decide ((65536 : Int) < (s.length : Int)) = false := decide_eq_false (by omega)
  have hsI : (s.length : Int) ≤ 65536 := by omega
  have HCut := Lib.hid (fun W => cut6_any s 32 W (by omega))
  have hwl : (wordsL 32 s).length ≤ 65537 := Nat.le_trans (wordsL_len 32 s) (by omega)
  have HWL := Lib.hid (fun x (hx : x ∈ wordsL 32 s) => Nat.le_trans (words_len32 hx) hs)
  obtain ⟨i0, hi, hz0, hz1, hz2⟩ := info_parts intInfox
  have HBad : Hid (∀ i (h : i < (wordsL 32 s).length), ¬ OkW (wordsL 32 s)[i] → b = false) := Lib.hid fun i h hn => by
    cases b with
    | false => rfl
    | true => exact absurd ((hb.1 rfl).1 _ (List.getElem_mem h)) hn
  have HEnd : Hid ((∀ i (h : i < (wordsL 32 s).length), OkW (wordsL 32 s)[i]) → decide (GoodG (wordsL 32 s).length (fun i => (rgs (wordsL 32 s)).getD i 0)) = b) := Lib.hid fun h => by
    have hall : ∀ x ∈ wordsL 32 s, OkW x := fun x hx => by
      obtain ⟨i, hi, rfl⟩ := List.getElem_of_mem hx
      exact h i hi
    cases b with
    | false => exact decide_eq_false fun hg => absurd (hb.2 ⟨hall, hg⟩) (by simp)
    | true => exact decide_eq_true (hb.1 rfl).2
  clear hb h0 hs
  have e32 : ((32 : UInt8).toNat : Int) = 32 := rfl
  rw [e32] at HCut
  generalize wordsL 32 s = ws at *
  go_enter Tryd.func8, Tryd.ntmps8
  go_wp2_with fail
  refine (HCut.out _).mono ?_
  rintro e w1 ⟨v, rfl, hrow, hb1⟩
  obtain ⟨av, cv, rfl⟩ := ownsR_shape hrow
  have HR1 := Lib.hid hrow
  obtain ⟨x1, rfl⟩ : ∃ x : After w, w1 = x.w := ⟨⟨w1, hb1⟩, rfl⟩
  clear hrow hb1 HCut
  go_wp2
  go_loopw [5, 6, 7, 8] (fun v i _ _ wr => ∃ k : Nat, k ≤ ws.length ∧ i = .int .i64 k ∧ (∀ i (h : i < ws.length), i < k → OkW ws[i]) ∧ ∃ x : After w, wr = x.w ∧ Hid (x.w.ownsRow w.heap.size 9 1 (.slice av ws.length cv) ws.length (wvs ws)) ∧ Hid (x.w.ownsRow w.heap.size 3 1 v k (nvs (rgs (ws.take k))))) (fun _ i _ _ _ => ws.length - (intOf i).toNat)
  case atStart => exact ⟨0, by omega, rfl, fun i _ h => absurd h (by omega), x1, rfl, HR1, Lib.hid (World.ownsRow_nil _ _ _ _)⟩
  case round =>
    obtain ⟨k, hk, rfl, hok, y, rfl, HR, HO⟩ := hrel
    by_cases hlt : k < ws.length
    · have hlti : (k : Int) < (ws.length : Int) := by omega
      obtain ⟨gb, rfl, hgb, hcell⟩ := trow_of HR.out k hlt
      have HN := Lib.hid (rgs_take hlt)
      have hwk := HWL.out ws[k] (List.getElem_mem hlt)
      have HNum := Lib.hid (fun W => number6_any ws[k] W (by omega))
      have HB := Lib.hid (HBad.out k hlt)
      have hokk : OkW ws[k] → ∀ i (h : i < ws.length), i < k + 1 → OkW ws[i] := fun h i hi hik => by
        rcases Nat.lt_or_ge i k with h1 | h1
        · exact hok i hi h1
        · obtain rfl : i = k := by omega
          exact h
      generalize ws[k] = x at *
      by_cases h45 : x = [45]
      · have d45 : (x == [45]) = true := beq_iff_eq.2 h45
        have hrg : rgF x = -1 := if_pos h45
        have hok' := hokk (.inl h45)
        clear hokk HB h45 hok
        go_wp2_with fail
        refine (HNum.out _).mono ?_
        rintro e w2 ⟨⟨N0, ok, rfl, hyes, hno⟩, hw2⟩
        have HO2 := Lib.hid (ownsR_stay HO.out hw2)
        have hcell2 := (hw2.cell (p := ⟨gb, k, none⟩) hgb).trans hcell
        have HR2 := Lib.hid (ownsR_stay HR.out hw2)
        obtain ⟨u, rfl⟩ : ∃ u : After w, w2 = u.w := ⟨⟨w2, y.out.trans (hw2.mono y.out.size)⟩, rfl⟩
        have hsu := u.out.size
        clear hw2 HO HR
        clear hyes hno
        go_wp2_with (at_builtin; refine wpList_append_own _ rfl _ _ 22 rfl w.heap.size 3 i0 (.int .i64 0) 1 8 Tryd.underlying22 hi hz0 hz1 hz2 rfl (by decide) _ _ _ rfl (HO2.out.alloc _) ⟨u.w.heap.size, 0, none⟩ 1 1 [.int .i64 (-1)] rfl rfl (World.news_of_block (cs := #[.int .i64 (-1)]) (t := 3) (fr := (0, 0)) (heap_alloc_new u.w _)) (by simp [Value.oneCell']) (by unfold maxLen; omega) (by omega) (by simp; omega) ?_; intro v' w1 hown' hgrow _)
        go_roundw
        case rel => exact ⟨k + 1, by omega, by go_num, hok', ⟨w1, (u.out.alloc hsu _).grown hgrow (by simp; omega) (fun j e => (HO2.out.lt j e).1)⟩, rfl, Lib.hid (owns_two HR2.out HO2.out hgrow), Lib.hid (by rw [HN.out, nvs_snoc, hrg]; simpa using hown')⟩
        case measure => simp [intOf]; omega
      · have d45 : (x == [45]) = false := beq_eq_false_iff_ne.2 h45
        go_wp2_with fail
        refine (HNum.out _).mono ?_
        rintro e w2 ⟨⟨N0, ok, rfl, hyes, hno⟩, hw2⟩
        have HO2 := Lib.hid (ownsR_stay HO.out hw2)
        have hcell2 := (hw2.cell (p := ⟨gb, k, none⟩) hgb).trans hcell
        have HR2 := Lib.hid (ownsR_stay HR.out hw2)
        obtain ⟨u, rfl⟩ : ∃ u : After w, w2 = u.w := ⟨⟨w2, y.out.trans (hw2.mono y.out.size)⟩, rfl⟩
        have hsu := u.out.size
        clear hw2 HO HR
        cases ok
        · have hbf := HB.out (notOk_no (hno rfl) h45)
          subst hbf
          clear hokk HB h45 hok hyes hno HBad HEnd
          cases hn0 : decide (N0 < 0)
          · go_wp2
            go_returns
            exact ⟨rfl, by (repeat' (first | (with_reducible exact Below.refl _ _) | (with_reducible assumption) | (with_reducible refine Below.alloc ?_ ?_ _) | (with_reducible refine Below.drew ?_) | (with_reducible refine below_drewN ?_ _) | (with_reducible refine Below.setCell ?_ ?_ _) | (with_reducible refine below_after ?_ ?_ _) | (with_reducible refine below_set ?_) | (with_reducible refine After.size_le _ ?_) | (with_reducible refine size_alloc_le ?_) | (with_reducible refine size_set_le ?_) | (with_reducible refine size_drewN_le ?_) | go_size))⟩
          · go_wp2
            go_returns
            exact ⟨rfl, by (repeat' (first | (with_reducible exact Below.refl _ _) | (with_reducible assumption) | (with_reducible refine Below.alloc ?_ ?_ _) | (with_reducible refine Below.drew ?_) | (with_reducible refine below_drewN ?_ _) | (with_reducible refine Below.setCell ?_ ?_ _) | (with_reducible refine below_after ?_ ?_ _) | (with_reducible refine below_set ?_) | (with_reducible refine After.size_le _ ?_) | (with_reducible refine size_alloc_le ?_) | (with_reducible refine size_set_le ?_) | (with_reducible refine size_drewN_le ?_) | go_size))⟩
        · obtain ⟨h15, hit⟩ := hyes rfl
          by_cases hneg : N0 < 0
          · have hbf := HB.out (notOk_neg h15 hit hneg h45)
            subst hbf
            have hn0 : decide (N0 < 0) = true := decide_eq_true hneg
            clear hokk HB h45 hok hyes hno HBad HEnd hneg
            go_wp2
            go_returns
            exact ⟨rfl, by (repeat' (first | (with_reducible exact Below.refl _ _) | (with_reducible assumption) | (with_reducible refine Below.alloc ?_ ?_ _) | (with_reducible refine Below.drew ?_) | (with_reducible refine below_drewN ?_ _) | (with_reducible refine Below.setCell ?_ ?_ _) | (with_reducible refine below_after ?_ ?_ _) | (with_reducible refine below_set ?_) | (with_reducible refine After.size_le _ ?_) | (with_reducible refine size_alloc_le ?_) | (with_reducible refine size_set_le ?_) | (with_reducible refine size_drewN_le ?_) | go_size))⟩
          · obtain ⟨h1, hrg⟩ := okW_num h15 hit (by omega) h45
            have hn0 : decide (N0 < 0) = false := decide_eq_false hneg
            have hok' := hokk h1
            clear hokk HB h45 hok hyes hno hneg h15 hit h1
            go_wp2_with (at_builtin; refine wpList_append_own _ rfl _ _ 22 rfl w.heap.size 3 i0 (.int .i64 0) 1 8 Tryd.underlying22 hi hz0 hz1 hz2 rfl (by decide) _ _ _ rfl (HO2.out.alloc _) ⟨u.w.heap.size, 0, none⟩ 1 1 [.int .i64 N0] rfl rfl (World.news_of_block (cs := #[.int .i64 N0]) (t := 3) (fr := (0, 0)) (heap_alloc_new u.w _)) (by simp [Value.oneCell']) (by unfold maxLen; omega) (by omega) (by simp; omega) ?_; intro v' w1 hown' hgrow _)
            go_roundw
            case rel => exact ⟨k + 1, by omega, by go_num, hok', ⟨w1, (u.out.alloc hsu _).grown hgrow (by simp; omega) (fun j e => (HO2.out.lt j e).1)⟩, rfl, Lib.hid (owns_two HR2.out HO2.out hgrow), Lib.hid (by rw [HN.out, nvs_snoc, hrg]; simpa using hown')⟩
            case measure => simp [intOf]; omega
    · obtain rfl : k = ws.length := by omega
      rw [List.take_length] at HO
      have hg := HEnd.out (fun i h => hok i h h)
      obtain ⟨a0, c0, rfl, hin⟩ := nrow_in HO.out
      have HV := Lib.hid (rvalidGusts_any a0 ws.length c0 _ y.w hin (by omega))
      rw [hg] at HV
      clear hok hg hin HBad HEnd
      go_wp2_with fail
      refine HV.out.mono ?_
      rintro e w3 ⟨rfl, hb3⟩
      have HO3 := Lib.hid (ownsR_stay HO.out hb3)
      obtain ⟨u, rfl⟩ : ∃ u : After w, w3 = u.w := ⟨⟨w3, y.out.trans (hb3.mono y.out.size)⟩, rfl⟩
      clear hb3
      cases b
      · go_wp2
        go_returns
        exact ⟨rfl, by (repeat' (first | (with_reducible exact Below.refl _ _) | (with_reducible assumption) | (with_reducible refine Below.alloc ?_ ?_ _) | (with_reducible refine Below.drew ?_) | (with_reducible refine below_drewN ?_ _) | (with_reducible refine Below.setCell ?_ ?_ _) | (with_reducible refine below_after ?_ ?_ _) | (with_reducible refine below_set ?_) | (with_reducible refine After.size_le _ ?_) | (with_reducible refine size_alloc_le ?_) | (with_reducible refine size_set_le ?_) | (with_reducible refine size_drewN_le ?_) | go_size))⟩
      · go_wp2
        go_returns
        exact ⟨⟨.slice a0 ws.length c0, rfl, HO3.out⟩, by (repeat' (first | (with_reducible exact Below.refl _ _) | (with_reducible assumption) | (with_reducible refine Below.alloc ?_ ?_ _) | (with_reducible refine Below.drew ?_) | (with_reducible refine below_drewN ?_ _) | (with_reducible refine Below.setCell ?_ ?_ _) | (with_reducible refine below_after ?_ ?_ _) | (with_reducible refine below_set ?_) | (with_reducible refine After.size_le _ ?_) | (with_reducible refine size_alloc_le ?_) | (with_reducible refine size_set_le ?_) | (with_reducible refine size_drewN_le ?_) | go_size))⟩
end Go.Proofs.YtmhjahljilaijaaDoor.Tx
