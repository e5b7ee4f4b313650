/- The program's Parse. -/
import Derived.Test.YtldopcneellfbaaGreatDoorReadl
import Derived.Test.YtldopcneellfbaaGreatDoorFol
import Derived.Test.YtldopcneellfbaaGreatDoorParsel
namespace Go.Proofs.YtldopcneellfbaaGreatDoor
open Go.RowKit
attribute [local go_sem] After.cell After.frozen After.lt After.le After.ne After.ne' After.set_eq After.size_set After.lt_add tx_size tx_toList

theorem readMark_any {s : List UInt8} (hs : s.length ≤ 65536) {w : World} (hS : Std w) :
    Calls Tryz.prog 12 #[.string (tx s)] w fun e w' => RAns s e ∧ Below w.heap.size w w' := by
  by_cases h : (wordsL 32 s).length = 3
  · exact readMark_three s hs w hS h fun x hx => by have := wordsL_le 32 s x hx; omega
  · exact readMark_len s hs w hS h
def strLen (v : Value) : Nat := match v with | .string b => b.size | _ => 0
theorem noLine_no {ls : List (List UInt8)} {k : Nat} {f : Nat → Nat → Int} {t : List UInt8} (ht : ls[k]? = some t) (hb : ∀ a b c, I64 a → I64 b → I64 c → wordsL 32 t ≠ threeW a b c) : NoLine ls k f := by
  intro t' ht' h e n hw hf
  rw [ht] at ht'
  cases ht'
  obtain ⟨h1, h2, h3⟩ := in18_of hf
  unfold In18 at h1 h2 h3
  exact hb h e n (by unfold I64; omega) (by unfold I64; omega) (by unfold I64; omega) hw
theorem noLine_yes {ls : List (List UInt8)} {k : Nat} {f : Nat → Nat → Int} {t : List UInt8} {a b c : Int} (ht : ls[k]? = some t) (ha : I64 a) (hb : I64 b) (hc : I64 c) (hw : wordsL 32 t = threeW a b c) (hf : ¬ FolM k (f (k - 1) 0) a b c) : NoLine ls k f := by
  intro t' ht' h e n hw' hf'
  rw [ht] at ht'
  cases ht'
  rw [hw] at hw'
  unfold threeW at hw'
  simp only [List.cons.injEq, and_true] at hw'
  obtain ⟨h1, h2, h3⟩ := in18_of hf'
  have inj : ∀ (x y : Int), I64 x → In18 y → Lib.itoa x = Lib.itoa y → x = y := fun x y hx hy e => by
    have a1 := atoi_itoa hx
    have a2 := atoi_itoa (n := y) (by unfold In18 at hy; unfold I64; omega)
    rw [e, a2] at a1
    injection a1 with a1
    exact a1.symm
  obtain rfl := inj _ _ ha h1 hw'.1
  obtain rfl := inj _ _ hb h2 hw'.2.1
  obtain rfl := inj _ _ hc h3 hw'.2.2
  exact hf hf'

set_option maxRecDepth 100000 in
set_option maxHeartbeats 2000000 in
theorem parse_long (s : List UInt8) (w : World) (hs : 65536 < s.length) :
    Calls Tryz.prog 5 #[.string (tx s)] w fun e w' => e = .returned (.tuple #[.slice none 0 0, .int .i64 0, .int .i64 3]) ∧ Below w.heap.size w w' := by
  have hs' : (65536 : Int) < (s.length : Int) := by omega
  go_enter Tryz.func5, Tryz.ntmps5
  go_wp2
  go_returns
  exact ⟨rfl, by (repeat' (first | (with_reducible exact Below.refl _ _) | (with_reducible assumption) | (with_reducible refine Below.alloc ?_ ?_ _) | (with_reducible refine Below.drew ?_) | (with_reducible refine below_drewN ?_ _) | (with_reducible refine Below.setCell ?_ ?_ _) | (with_reducible refine below_after ?_ ?_ _) | (with_reducible refine below_set ?_) | (with_reducible refine After.size_le _ ?_) | (with_reducible refine size_alloc_le ?_) | (with_reducible refine size_set_le ?_) | (with_reducible refine size_drewN_le ?_) | go_size))⟩
set_option maxRecDepth 100000 in
set_option maxHeartbeats 2000000 in
theorem parse_any (s : List UInt8) (w : World) (hs : s.length ≤ 65536) (hS : Std w) :
    Calls Tryz.prog 5 #[.string (tx s)] w fun e w' => (∃ B, PAns w' B (wordsL 10 s) e) ∧ Below w.heap.size w w' := by
  obtain ⟨i0, hi, hz0, hz1, hz2⟩ := info_parts mkInfo
  have hs' : (s.length : Int) ≤ 65536 := by omega
  have HCut : Hid (∀ t : List UInt8, t.length ≤ 65536 → ∀ W, Below w.heap.size w W → Calls Tryz.prog 11 #[.string (tx t), .string (tx [10])] W _) := Lib.hid fun t ht W hW => cut_any ht (hS.on hW)
  have HRd : Hid (∀ t : List UInt8, t.length ≤ 65536 → ∀ W, Below w.heap.size w W → Calls Tryz.prog 12 #[.string (tx t)] W _) := Lib.hid fun t ht W hW => readMark_any ht (hS.on hW)
  obtain ⟨ls, hls⟩ : ∃ ls, wordsL 10 s = ls := ⟨_, rfl⟩
  have HLs := Lib.hid hls
  rw [hls]
  clear hS hls
  have e0 : (⟨#[10]⟩ : ByteArray) = tx [10] := rfl
  go_enter Tryz.func5, Tryz.ntmps5
  go_wp2_with fail
  go_loopw [2, 5] (fun v r wr => ∃ (k : Nat) (f : Nat → Nat → Int) (rest : List UInt8) (y : After w), wr = y.w ∧ r = .string (tx rest) ∧ rest.length ≤ 65536 ∧ wordsL 10 rest = ls.drop k ∧ PGood ls k f ∧ y.w.ownsRow w.heap.size 40 3 v k (mcs k f)) (fun _ r _ => strLen r)
  case atStart => exact ⟨0, fun _ _ => 0, s, ⟨w, Below.refl _ _⟩, rfl, rfl, hs, HLs.out, ⟨by omega, fun i hi => absurd hi (by omega)⟩, World.ownsRow_nil _ _ _ _⟩
  case round =>
    obtain ⟨k, f, rest, y, rfl, rfl, hrl, hrw, hp, hown⟩ := hrel
    have hsy := y.out.size
    have hk40 := hp.1
    have HP := Lib.hid hp
    have HR := Lib.hid hrw
    obtain ⟨av, capv, rfl⟩ : ∃ av capv, u2 = .slice av k capv := owns_form hown
    clear hp hrw
    by_cases hend : rest = [] ∧ k ≠ 0
    · obtain ⟨rfl, hk0⟩ := hend
      have hk1 : ((k : Int) == 0) = false := by rw [beq_eq_false_iff_ne]; omega
      have HW : Hid (Whole ls k f) := Lib.hid (by
        have h := HR.out
        have e1 : wordsL 10 [] = [[]] := rfl
        rw [e1] at h
        have hl := congrArg List.length h
        simp at hl
        refine ⟨HP.out, by omega, by omega, ?_⟩
        have := congrArg (fun l => l[0]?) h
        simp at this
        exact this.symm)
      have HO := Lib.hid hown
      clear hown
      go_wp2
      go_returns
      exact ⟨⟨_, .inl ⟨k, f, _, HW.out, rfl, HO.out⟩⟩, by (repeat' (first | (with_reducible exact Below.refl _ _) | (with_reducible assumption) | (with_reducible refine Below.alloc ?_ ?_ _) | (with_reducible refine Below.drew ?_) | (with_reducible refine below_drewN ?_ _) | (with_reducible refine Below.setCell ?_ ?_ _) | (with_reducible refine below_after ?_ ?_ _) | (with_reducible refine below_set ?_) | (with_reducible refine After.size_le _ ?_) | (with_reducible refine size_alloc_le ?_) | (with_reducible refine size_set_le ?_) | (with_reducible refine size_drewN_le ?_) | go_size))⟩
    · by_cases hr0 : rest = []
      · have hk0 : k = 0 := by
          rcases Nat.eq_zero_or_pos k with h | h
          · exact h
          · exact absurd ⟨hr0, by omega⟩ hend
        subst hr0 hk0
        clear hend
        have HCu := Lib.hid (HCut.out [] hrl y.w y.out)
        go_wp2_with fail
        refine HCu.out.mono ?_
        rintro e2 w2 ⟨⟨a, b, ok, rfl, hcut⟩, hb2⟩
        have hown2 := owns_keep hown hb2
        obtain ⟨y2, rfl⟩ := after_of' (y.out.trans (hb2.mono y.out.size))
        have hal : a.length ≤ 65536 := by rcases hcut with ⟨_, _, rfl, _⟩ | ⟨_, _, h⟩ <;> omega
        have HRm := Lib.hid (HRd.out a hal y2.w y2.out)
        have HCt := Lib.hid hcut
        clear hb2 hown hcut HCu
        go_wp2_with fail
        refine HRm.out.mono ?_
        rintro e3 w3 ⟨⟨m1, m2, m3, mok, rfl, i1, i2, i3, hyes, hno⟩, hb3⟩
        have hown3 := owns_keep hown2 hb3
        obtain ⟨y3, rfl⟩ := after_of' (y2.out.trans (hb3.mono y2.out.size))
        have HI := Lib.hid (And.intro i1 (And.intro i2 i3))
        have HYes := Lib.hid hyes
        have HNo := Lib.hid hno
        clear hb3 hown2 HRm i1 i2 i3 hyes hno
        cases ok
        · have HSt : Hid (Stops ls 0 f) := Lib.hid (by
            rcases HCt.out with ⟨_, hw, _, _⟩ | ⟨h, _⟩
            · have h := HR.out
              rw [hw] at h
              have hl := congrArg List.length h
              simp at hl
              have h0 := congrArg (fun l => l[0]?) h
              simp at h0
              exact ⟨HP.out, .inr ⟨by omega, .inl rfl⟩⟩
            · cases h)
          go_wp2
          go_returns
          exact ⟨⟨0, .inr ⟨0, f, HSt.out, rfl⟩⟩, by (repeat' (first | (with_reducible exact Below.refl _ _) | (with_reducible assumption) | (with_reducible refine Below.alloc ?_ ?_ _) | (with_reducible refine Below.drew ?_) | (with_reducible refine below_drewN ?_ _) | (with_reducible refine Below.setCell ?_ ?_ _) | (with_reducible refine below_after ?_ ?_ _) | (with_reducible refine below_set ?_) | (with_reducible refine After.size_le _ ?_) | (with_reducible refine size_alloc_le ?_) | (with_reducible refine size_set_le ?_) | (with_reducible refine size_drewN_le ?_) | go_size))⟩
        · have HA : Hid (ls[0]? = some a ∧ ls.drop (0 + 1) = wordsL 10 b ∧ 0 + 1 < ls.length ∧ a.length + b.length + 1 = ([] : List UInt8).length) := Lib.hid (by
            rcases HCt.out with ⟨h, _⟩ | ⟨_, hw, hl⟩
            · cases h
            · have h := HR.out
              rw [hw] at h
              have h0 := congrArg (fun l => l[0]?) h
              have h1 := congrArg (List.drop 1) h
              have hll := congrArg List.length h
              have hpos := wordsL_pos 10 b
              simp at h0 h1 hll
              exact ⟨h0.symm, by first | (rw [h1]; done) | (rw [h1]; simp), by omega, hl⟩)
          cases mok
          · have HSt := Lib.hid (show Stops ls 0 f from ⟨HP.out, .inl ⟨HA.out.2.2.1, noLine_no HA.out.1 (HNo.out (by first | trivial | rfl))⟩⟩)
            go_wp2
            go_returns
            exact ⟨⟨0, .inr ⟨0, f, HSt.out, rfl⟩⟩, by (repeat' (first | (with_reducible exact Below.refl _ _) | (with_reducible assumption) | (with_reducible refine Below.alloc ?_ ?_ _) | (with_reducible refine Below.drew ?_) | (with_reducible refine below_drewN ?_ _) | (with_reducible refine Below.setCell ?_ ?_ _) | (with_reducible refine below_after ?_ ?_ _) | (with_reducible refine below_set ?_) | (with_reducible refine After.size_le _ ?_) | (with_reducible refine size_alloc_le ?_) | (with_reducible refine size_set_le ?_) | (with_reducible refine size_drewN_le ?_) | go_size))⟩
          · go_wp2_with fail
            refine (follows_own (f := f) (owns_keep hown3 (by (repeat' (first | (with_reducible exact Nat.le_refl _) | (with_reducible exact Below.refl _ _) | (with_reducible assumption) | (with_reducible refine Below.alloc ?_ ?_ _) | (with_reducible refine Below.drew ?_) | (with_reducible refine below_drewN ?_ _) | (with_reducible refine Below.setCell ?_ ?_ _) | (with_reducible refine below_after ?_ ?_ _) | (with_reducible refine below_set ?_) | (with_reducible refine After.size_le _ ?_) | (with_reducible refine size_alloc_le ?_) | (with_reducible refine size_set_le ?_) | (with_reducible refine size_drewN_le ?_) | go_size)))) (by omega) m1 m2 m3).mono ?_
            rintro e5 w5 ⟨rfl, hb5⟩
            have d0 : w5.cell? ⟨y3.w.heap.size, 0, none⟩ = some (.int .i64 m1) := (hb5.cell (p := ⟨y3.w.heap.size, 0, none⟩) (by simp)).trans (by simp [go_sem])
            have d1 : w5.cell? ⟨y3.w.heap.size, 1, none⟩ = some (.int .i64 m2) := (hb5.cell (p := ⟨y3.w.heap.size, 1, none⟩) (by simp)).trans (by simp [go_sem])
            have d2 : w5.cell? ⟨y3.w.heap.size, 2, none⟩ = some (.int .i64 m3) := (hb5.cell (p := ⟨y3.w.heap.size, 2, none⟩) (by simp)).trans (by simp [go_sem])
            have hy5 : Below y3.w.heap.size y3.w w5 := Below.trans (by (repeat' (first | (with_reducible exact Nat.le_refl _) | (with_reducible exact Below.refl _ _) | (with_reducible assumption) | (with_reducible refine Below.alloc ?_ ?_ _) | (with_reducible refine Below.drew ?_) | (with_reducible refine below_drewN ?_ _) | (with_reducible refine Below.setCell ?_ ?_ _) | (with_reducible refine below_after ?_ ?_ _) | (with_reducible refine below_set ?_) | (with_reducible refine After.size_le _ ?_) | (with_reducible refine size_alloc_le ?_) | (with_reducible refine size_set_le ?_) | (with_reducible refine size_drewN_le ?_) | go_size))) (hb5.mono (by simp))
            have hown5 := owns_keep hown3 hy5
            have hl5 : y3.w.heap.size < w5.heap.size := by have := hb5.size; simp at this; omega
            obtain ⟨y5, rfl⟩ := after_of' (y3.out.trans (hy5.mono y3.out.size))
            have hsy5 := y5.out.size
            clear hb5 hown3 hy5
            by_cases hf : FolM 0 (f (0 - 1) 0) m1 m2 m3
            · have hd : decide (FolM 0 (f (0 - 1) 0) m1 m2 m3) = true := decide_eq_true hf
              have HF := Lib.hid hf
              rw [hd]
              clear hd hf
              go_wp2_with (at_builtin; refine wpList_append_own _ rfl _ _ 22 rfl w.heap.size 40 i0 (.agg #[.int .i64 0, .int .i64 0, .int .i64 0]) 3 24 Tryz.underlying22 hi hz0 hz1 hz2 rfl (by decide) _ _ _ rfl (hown5.alloc _) ⟨y5.w.heap.size, 0, none⟩ 1 1 [.int .i64 m1, .int .i64 m2, .int .i64 m3] rfl rfl (World.news_of_block (cs := #[.int .i64 m1, .int .i64 m2, .int .i64 m3]) (t := 40) (fr := (0, 0)) (heap_alloc_new y5.w _)) (by simp [Value.oneCell']) (by unfold maxLen; omega) (by omega) (by simp; omega) ?_; intro v' w6 hown' hgrow _)
              rw [← mcs_put] at hown'
              go_roundw
              case rel => exact ⟨0 + 1, putM f 0 m1 m2 m3, b, ⟨w6, (y5.out.alloc hsy5 _).grown hgrow (by simp; omega) (fun j e => (hown5.lt j e).1)⟩, rfl, rfl, by have := HA.out.2.2.2; omega, HA.out.2.1.symm, HP.out.put HA.out.1 (HYes.out (by first | trivial | rfl)) HF.out, hown'⟩
              case measure => (have h := HA.out.2.2.2; try simp only [List.length_nil] at h); simp only [strLen, tx_size, List.length_nil]; omega
            · have hd : decide (FolM 0 (f (0 - 1) 0) m1 m2 m3) = false := decide_eq_false hf
              have HSt := Lib.hid (show Stops ls 0 f from ⟨HP.out, .inl ⟨HA.out.2.2.1, noLine_yes HA.out.1 HI.out.1 HI.out.2.1 HI.out.2.2 (HYes.out (by first | trivial | rfl)) hf⟩⟩)
              rw [hd]
              clear hd hf
              go_wp2
              go_returns
              exact ⟨⟨0, .inr ⟨0, f, HSt.out, rfl⟩⟩, by (repeat' (first | (with_reducible exact Below.refl _ _) | (with_reducible assumption) | (with_reducible refine Below.alloc ?_ ?_ _) | (with_reducible refine Below.drew ?_) | (with_reducible refine below_drewN ?_ _) | (with_reducible refine Below.setCell ?_ ?_ _) | (with_reducible refine below_after ?_ ?_ _) | (with_reducible refine below_set ?_) | (with_reducible refine After.size_le _ ?_) | (with_reducible refine size_alloc_le ?_) | (with_reducible refine size_set_le ?_) | (with_reducible refine size_drewN_le ?_) | go_size))⟩
      · have hr1 : (rest == []) = false := beq_eq_false_iff_ne.2 hr0
        have HRn := Lib.hid hr0
        clear hend hr0
        have HCu := Lib.hid (HCut.out rest hrl y.w y.out)
        go_wp2_with fail
        refine HCu.out.mono ?_
        rintro e2 w2 ⟨⟨a, b, ok, rfl, hcut⟩, hb2⟩
        have hown2 := owns_keep hown hb2
        obtain ⟨y2, rfl⟩ := after_of' (y.out.trans (hb2.mono y.out.size))
        have hal : a.length ≤ 65536 := by rcases hcut with ⟨_, _, rfl, _⟩ | ⟨_, _, h⟩ <;> omega
        have HRm := Lib.hid (HRd.out a hal y2.w y2.out)
        have HCt := Lib.hid hcut
        clear hb2 hown hcut HCu
        go_wp2_with fail
        refine HRm.out.mono ?_
        rintro e3 w3 ⟨⟨m1, m2, m3, mok, rfl, i1, i2, i3, hyes, hno⟩, hb3⟩
        have hown3 := owns_keep hown2 hb3
        obtain ⟨y3, rfl⟩ := after_of' (y2.out.trans (hb3.mono y2.out.size))
        have HI := Lib.hid (And.intro i1 (And.intro i2 i3))
        have HYes := Lib.hid hyes
        have HNo := Lib.hid hno
        clear hb3 hown2 HRm i1 i2 i3 hyes hno
        cases ok
        · have HSt : Hid (Stops ls k f) := Lib.hid (by
            rcases HCt.out with ⟨_, hw, _, _⟩ | ⟨h, _⟩
            · have h := HR.out
              rw [hw] at h
              have hl := congrArg List.length h
              simp at hl
              have h0 := congrArg (fun l => l[0]?) h
              simp at h0
              exact ⟨HP.out, .inr ⟨by omega, .inr (by rw [← h0]; intro e; exact HRn.out (Option.some.inj e))⟩⟩
            · cases h)
          go_wp2
          go_returns
          exact ⟨⟨0, .inr ⟨k, f, HSt.out, rfl⟩⟩, by (repeat' (first | (with_reducible exact Below.refl _ _) | (with_reducible assumption) | (with_reducible refine Below.alloc ?_ ?_ _) | (with_reducible refine Below.drew ?_) | (with_reducible refine below_drewN ?_ _) | (with_reducible refine Below.setCell ?_ ?_ _) | (with_reducible refine below_after ?_ ?_ _) | (with_reducible refine below_set ?_) | (with_reducible refine After.size_le _ ?_) | (with_reducible refine size_alloc_le ?_) | (with_reducible refine size_set_le ?_) | (with_reducible refine size_drewN_le ?_) | go_size))⟩
        · have HA : Hid (ls[k]? = some a ∧ ls.drop (k + 1) = wordsL 10 b ∧ k + 1 < ls.length ∧ a.length + b.length + 1 = rest.length) := Lib.hid (by
            rcases HCt.out with ⟨h, _⟩ | ⟨_, hw, hl⟩
            · cases h
            · have h := HR.out
              rw [hw] at h
              have h0 := congrArg (fun l => l[0]?) h
              have h1 := congrArg (List.drop 1) h
              have hll := congrArg List.length h
              have hpos := wordsL_pos 10 b
              simp at h0 h1 hll
              exact ⟨h0.symm, by first | (rw [h1]; done) | (rw [h1]; simp [Nat.add_comm]), by omega, hl⟩)
          cases mok
          · have HSt := Lib.hid (show Stops ls k f from ⟨HP.out, .inl ⟨HA.out.2.2.1, noLine_no HA.out.1 (HNo.out (by first | trivial | rfl))⟩⟩)
            go_wp2
            go_returns
            exact ⟨⟨0, .inr ⟨k, f, HSt.out, rfl⟩⟩, by (repeat' (first | (with_reducible exact Below.refl _ _) | (with_reducible assumption) | (with_reducible refine Below.alloc ?_ ?_ _) | (with_reducible refine Below.drew ?_) | (with_reducible refine below_drewN ?_ _) | (with_reducible refine Below.setCell ?_ ?_ _) | (with_reducible refine below_after ?_ ?_ _) | (with_reducible refine below_set ?_) | (with_reducible refine After.size_le _ ?_) | (with_reducible refine size_alloc_le ?_) | (with_reducible refine size_set_le ?_) | (with_reducible refine size_drewN_le ?_) | go_size))⟩
          · go_wp2_with fail
            refine (follows_own (f := f) (owns_keep hown3 (by (repeat' (first | (with_reducible exact Nat.le_refl _) | (with_reducible exact Below.refl _ _) | (with_reducible assumption) | (with_reducible refine Below.alloc ?_ ?_ _) | (with_reducible refine Below.drew ?_) | (with_reducible refine below_drewN ?_ _) | (with_reducible refine Below.setCell ?_ ?_ _) | (with_reducible refine below_after ?_ ?_ _) | (with_reducible refine below_set ?_) | (with_reducible refine After.size_le _ ?_) | (with_reducible refine size_alloc_le ?_) | (with_reducible refine size_set_le ?_) | (with_reducible refine size_drewN_le ?_) | go_size)))) (by omega) m1 m2 m3).mono ?_
            rintro e5 w5 ⟨rfl, hb5⟩
            have d0 : w5.cell? ⟨y3.w.heap.size, 0, none⟩ = some (.int .i64 m1) := (hb5.cell (p := ⟨y3.w.heap.size, 0, none⟩) (by simp)).trans (by simp [go_sem])
            have d1 : w5.cell? ⟨y3.w.heap.size, 1, none⟩ = some (.int .i64 m2) := (hb5.cell (p := ⟨y3.w.heap.size, 1, none⟩) (by simp)).trans (by simp [go_sem])
            have d2 : w5.cell? ⟨y3.w.heap.size, 2, none⟩ = some (.int .i64 m3) := (hb5.cell (p := ⟨y3.w.heap.size, 2, none⟩) (by simp)).trans (by simp [go_sem])
            have hy5 : Below y3.w.heap.size y3.w w5 := Below.trans (by (repeat' (first | (with_reducible exact Nat.le_refl _) | (with_reducible exact Below.refl _ _) | (with_reducible assumption) | (with_reducible refine Below.alloc ?_ ?_ _) | (with_reducible refine Below.drew ?_) | (with_reducible refine below_drewN ?_ _) | (with_reducible refine Below.setCell ?_ ?_ _) | (with_reducible refine below_after ?_ ?_ _) | (with_reducible refine below_set ?_) | (with_reducible refine After.size_le _ ?_) | (with_reducible refine size_alloc_le ?_) | (with_reducible refine size_set_le ?_) | (with_reducible refine size_drewN_le ?_) | go_size))) (hb5.mono (by simp))
            have hown5 := owns_keep hown3 hy5
            have hl5 : y3.w.heap.size < w5.heap.size := by have := hb5.size; simp at this; omega
            obtain ⟨y5, rfl⟩ := after_of' (y3.out.trans (hy5.mono y3.out.size))
            have hsy5 := y5.out.size
            clear hb5 hown3 hy5
            by_cases hf : FolM k (f (k - 1) 0) m1 m2 m3
            · have hd : decide (FolM k (f (k - 1) 0) m1 m2 m3) = true := decide_eq_true hf
              have HF := Lib.hid hf
              rw [hd]
              clear hd hf
              go_wp2_with (at_builtin; refine wpList_append_own _ rfl _ _ 22 rfl w.heap.size 40 i0 (.agg #[.int .i64 0, .int .i64 0, .int .i64 0]) 3 24 Tryz.underlying22 hi hz0 hz1 hz2 rfl (by decide) _ _ _ rfl (hown5.alloc _) ⟨y5.w.heap.size, 0, none⟩ 1 1 [.int .i64 m1, .int .i64 m2, .int .i64 m3] rfl rfl (World.news_of_block (cs := #[.int .i64 m1, .int .i64 m2, .int .i64 m3]) (t := 40) (fr := (0, 0)) (heap_alloc_new y5.w _)) (by simp [Value.oneCell']) (by unfold maxLen; omega) (by omega) (by simp; omega) ?_; intro v' w6 hown' hgrow _)
              rw [← mcs_put] at hown'
              go_roundw
              case rel => exact ⟨k + 1, putM f k m1 m2 m3, b, ⟨w6, (y5.out.alloc hsy5 _).grown hgrow (by simp; omega) (fun j e => (hown5.lt j e).1)⟩, rfl, rfl, by have := HA.out.2.2.2; omega, HA.out.2.1.symm, HP.out.put HA.out.1 (HYes.out (by first | trivial | rfl)) HF.out, hown'⟩
              case measure => (have h := HA.out.2.2.2; try simp only [List.length_nil] at h); simp only [strLen, tx_size]; omega
            · have hd : decide (FolM k (f (k - 1) 0) m1 m2 m3) = false := decide_eq_false hf
              have HSt := Lib.hid (show Stops ls k f from ⟨HP.out, .inl ⟨HA.out.2.2.1, noLine_yes HA.out.1 HI.out.1 HI.out.2.1 HI.out.2.2 (HYes.out (by first | trivial | rfl)) hf⟩⟩)
              rw [hd]
              clear hd hf
              go_wp2
              go_returns
              exact ⟨⟨0, .inr ⟨k, f, HSt.out, rfl⟩⟩, by (repeat' (first | (with_reducible exact Below.refl _ _) | (with_reducible assumption) | (with_reducible refine Below.alloc ?_ ?_ _) | (with_reducible refine Below.drew ?_) | (with_reducible refine below_drewN ?_ _) | (with_reducible refine Below.setCell ?_ ?_ _) | (with_reducible refine below_after ?_ ?_ _) | (with_reducible refine below_set ?_) | (with_reducible refine After.size_le _ ?_) | (with_reducible refine size_alloc_le ?_) | (with_reducible refine size_set_le ?_) | (with_reducible refine size_drewN_le ?_) | go_size))⟩
end Go.Proofs.YtldopcneellfbaaGreatDoor
