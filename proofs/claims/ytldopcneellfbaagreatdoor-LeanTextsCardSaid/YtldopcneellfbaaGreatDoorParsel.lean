/- The reference's Parse: its loop. -/
import Derived.Test.YtldopcneellfbaaGreatDoorParser
namespace Go.Proofs.YtldopcneellfbaaGreatDoor
open Go.RowKit
attribute [local go_sem] After.cell After.frozen After.lt After.le After.ne After.ne' After.set_eq After.size_set After.lt_add tx_size tx_toList

theorem owns_keep {W W' : World} {B : Nat} {T : TypeId} {c n : Nat} {v : Value} {xs : List Value} (h : W.ownsRow B T c v n xs) (hb : Below W.heap.size W W') : W'.ownsRow B T c v n xs := by
  obtain ⟨q1, q2 | ⟨g', cap', cur, a1, a2, a3, a4⟩⟩ := h
  · exact ⟨q1, .inl q2⟩
  · exact ⟨q1, .inr ⟨g', cap', cur, a1, a2, (hb.block g' (Array.getElem?_eq_some_iff.1 a3).1).trans a3, a4⟩⟩

theorem owns_form {W : World} {B : Nat} {T : TypeId} {c n : Nat} {v : Value} {xs : List Value} (h : W.ownsRow B T c v n xs) : ∃ a cap, v = .slice a n cap := by
  rcases Nat.eq_zero_or_pos n with rfl | h0
  · rcases Go.Joins.ownsRow_forms h with ⟨rfl, _⟩ | ⟨g, c, rfl⟩
    · exact ⟨_, _, rfl⟩
    · exact ⟨_, _, rfl⟩
  · obtain ⟨g, cap, rfl⟩ := Go.Joins.ownsRow_form h h0
    exact ⟨_, _, rfl⟩
set_option maxRecDepth 100000 in
set_option maxHeartbeats 2000000 in
theorem rparse_any (s : List UInt8) (w : World) (hs : s.length ≤ 65536) :
    Calls Tryz.prog 6 #[.string (tx s)] w fun e w' => (∃ B, PAns w' B (wordsL 10 s) e) ∧ Below w.heap.size w w' := by
  obtain ⟨i0, hi, hz0, hz1, hz2⟩ := info_parts mkInfo
  have hs' : (s.length : Int) ≤ 65536 := by omega
  have hle := wordsL_le 10 s
  have hl1 := wordsL_len 10 s
  have hl0 := wordsL_pos 10 s
  have hw0 := fun V => words_any s 10 V (by omega)
  generalize wordsL 10 s = ls at *
  obtain ⟨m, hm⟩ : ∃ m, ls.length = m + 1 := ⟨ls.length - 1, by omega⟩
  have HW : Hid (∀ V : World, Calls Tryz.prog 14 #[.string (tx s), .int .u8 10] V _) := Lib.hid hw0
  have HLe := Lib.hid hle
  have HM := Lib.hid hm
  have hm0 : m ≤ 65536 := by omega
  clear hw0 hle hl1 hl0 hm
  go_enter Tryz.func6, Tryz.ntmps6
  go_wp2_with fail
  refine (HW.out _).mono ?_
  rintro e0 w1 ⟨v1, rfl, ho1, hb1⟩
  have hT := trow_of ho1
  clear HW ho1
  obtain ⟨a, cap, rfl, hcell⟩ := hT
  obtain ⟨g, rfl, hg, hcell⟩ := hcell (by have := HM.out; omega)
  have HC := Lib.hid hcell
  clear hcell
  have hm := HM.out
  rw [hm]
  clear hm
  obtain ⟨x1, rfl⟩ := after_of' hb1
  clear hb1
  go_wp2
  go_loopw [6, 7] (fun v i wr => ∃ (k : Nat) (f : Nat → Nat → Int), k ≤ m ∧ i = .int .i64 k ∧ PGood ls k f ∧ ∃ y : After x1.w, wr = y.w ∧ y.w.ownsRow x1.w.heap.size 40 3 v k (mcs k f)) (fun _ i _ => m - (intOf i).toNat)
  case atStart => exact ⟨0, fun _ _ => 0, by omega, rfl, ⟨by omega, fun i hi => absurd hi (by omega)⟩, ⟨x1.w, Below.refl _ _⟩, rfl, World.ownsRow_nil _ _ _ _⟩
  case round =>
    obtain ⟨k, f, hk, rfl, hp, y, rfl, hown⟩ := hrel
    have hsy := y.out.size
    have hk40 := hp.1
    have HP := Lib.hid hp
    clear hp
    have hgy := y.size_lt hg
    by_cases hlt : k < m
    · obtain ⟨t, ht⟩ : ∃ t, ls[k]? = some t := ⟨_, List.getElem?_eq_getElem (by have := HM.out; omega)⟩
      have hc := HC.out k t ht
      have htl := HLe.out t (List.mem_of_getElem? ht)
      have HT := Lib.hid ht
      clear ht
      have hkm : (k : Int) < (m : Int) := by omega
      have HK1 : Hid (∀ V : World, Calls Tryz.prog 14 #[.string (tx t), .int .u8 32] V _) := Lib.hid fun V => words_any t 32 V (by omega)
      go_wp2_with fail
      refine (HK1.out _).mono ?_
      rintro e2 w2 ⟨v2, rfl, ho2, hb2⟩
      have hown2 := owns_keep hown hb2
      have HK2 := Lib.hid (numbers_any v2 (wordsL 32 t) w2 (by have := wordsL_len 32 t; omega) (fun x hx => by have := wordsL_le 32 t x hx; omega) (trow_of ho2))
      obtain ⟨y2, rfl⟩ := after_of' (y.out.trans (hb2.mono y.out.size))
      clear hb2 ho2 hown HK1
      go_wp2_with fail
      refine HK2.out.mono ?_
      rintro e3 w3 ⟨hans, hb3⟩
      have hown3 := owns_keep hown2 hb3
      obtain ⟨y3, rfl⟩ := after_of' (y2.out.trans (hb3.mono y2.out.size))
      have hu6 : ∀ j, some j = u6.ownBlock → j < y2.w.heap.size := fun j e => (hown2.lt j e.symm).2
      clear hb3 hown2 HK2
      rcases hans with ⟨ns, v3, hr, rfl, ho3⟩ | ⟨hbad, rfl⟩
      · by_cases h3 : ns.length = 3
        · obtain ⟨a, b, c, rfl, hws, ia, ib, ic⟩ := reads_three hr h3
          have HWs := Lib.hid hws
          have HI := Lib.hid (And.intro ia (And.intro ib ic))
          clear hr h3 hws ia ib ic
          obtain ⟨g3, cap3, rfl⟩ := Go.Joins.ownsRow_form ho3 (by simp)
          have c0 : y3.w.cell? ⟨g3, 0, none⟩ = some (.int .i64 a) := by rw [ho3.cellAt _ (by simp)]; rfl
          have c1 : y3.w.cell? ⟨g3, 1, none⟩ = some (.int .i64 b) := by rw [ho3.cellAt _ (by simp)]; rfl
          have c2 : y3.w.cell? ⟨g3, 2, none⟩ = some (.int .i64 c) := by rw [ho3.cellAt _ (by simp)]; rfl
          have hg3 := (ho3.lt g3 rfl).2
          have hg3' := (ho3.lt g3 rfl).1
          have hsy2 := y2.out.size
          have hsy3 := y3.out.size
          have ag : some g3 ≠ u6.ownBlock := fun e => by have := hu6 g3 e; omega
          clear ho3
          simp only [List.length_cons, List.length_nil]
          go_wp2_with fail
          go_region_held3 (fun w' => w'.cell? ⟨g3, 0, none⟩ = some (.int .i64 a) ∧ w'.cell? ⟨g3, 1, none⟩ = some (.int .i64 b) ∧ w'.cell? ⟨g3, 2, none⟩ = some (.int .i64 c))
            (first
              | go_keep
              | (go_split_ands
                 refine ⟨?_, ?_, ?_⟩
                 · (rw [hgrow.cell_far _ (by simp; omega) ag]; assumption)
                 · (rw [hgrow.cell_far _ (by simp; omega) ag]; assumption)
                 · (rw [hgrow.cell_far _ (by simp; omega) ag]; assumption)))
            ((refine step_append_lies _ (by rfl) _ _ _ (by rfl) x1.w.heap.size 40 i0 _ 3 24 Tryz.underlying22 hi hz0 hz1 hz2 rfl (by omega) u6 k (mcs k f) (by rfl) ((hown3.alloc _).drew)
                ⟨y3.w.heap.size, 0, none⟩ 1 1 [.int .i64 a, .int .i64 b, .int .i64 c] (by rfl) (by rfl) (World.news_of_block (cs := #[.int .i64 a, .int .i64 b, .int .i64 c]) (t := 40) (fr := (0, 0)) (heap_alloc_new y3.w _)) (by simp [Value.oneCell'])
                (by omega) (by unfold maxLen; omega) (by omega) (by simp; omega) (y3.w.heap.size + 1) (by simp) ?_; intro gg cap2 w4 hown4 hgrow hat hlt2))
          have hbel4 : Below x1.w.heap.size x1.w w4 := (y3.out.alloc y3.out.size (.cells #[.int .i64 a, .int .i64 b, .int .i64 c] 40)).drew.grown hgrow (by simp; omega) (fun j e => (hown3.lt j e).1)
          rw [← mcs_put] at hown4
          have HO4 := Lib.hid hown4
          obtain ⟨y4, rfl⟩ := after_of' hbel4
          clear hown4 hgrow hat hlt2 hbel4 hown3
          have HV := Lib.hid (rvalid_put HO4.out hk40 (fun i hi => (HP.out.2 i hi).1))
          go_wp2_with fail
          refine HV.out.mono ?_
          rintro e5 w5 ⟨rfl, hb5⟩
          have HO5 := Lib.hid (owns_keep HO4.out hb5)
          obtain ⟨y5, rfl⟩ := after_of' (y4.out.trans (hb5.mono y4.out.size))
          clear HO4 HV hb5
          by_cases hf : FolM k (f (k - 1) 0) a b c
          · have hd : decide (FolM k (f (k - 1) 0) a b c) = true := decide_eq_true hf
            have HF := Lib.hid hf
            rw [hd]
            clear hd hf
            go_wp2
            go_roundw
            case rel => exact ⟨k + 1, putM f k a b c, by omega, by go_num, HP.out.put HT.out HWs.out HF.out, y5, rfl, HO5.out⟩
            case measure => simp [intOf]; omega
          · have hd : decide (FolM k (f (k - 1) 0) a b c) = false := decide_eq_false hf
            have HB := Lib.hid (noLine_fol HT.out HWs.out HI.out hf)
            rw [hd]
            clear hd hf
            go_wp2
            go_returns
            exact ⟨⟨0, .inr ⟨k, f, ⟨HP.out, .inl ⟨by rw [HM.out]; omega, HB.out⟩⟩, rfl⟩⟩, by (repeat' (first | (with_reducible exact Below.refl _ _) | (with_reducible assumption) | (with_reducible refine Below.alloc ?_ ?_ _) | (with_reducible refine Below.drew ?_) | (with_reducible refine below_drewN ?_ _) | (with_reducible refine Below.setCell ?_ ?_ _) | (with_reducible refine below_after ?_ ?_ _) | (with_reducible refine below_set ?_) | (with_reducible refine After.size_le _ ?_) | (with_reducible refine size_alloc_le ?_) | (with_reducible refine size_set_le ?_) | (with_reducible refine size_drewN_le ?_) | go_size))⟩
        · have HB := Lib.hid (noLine_len (f := f) HT.out (by rw [← hr.1]; exact h3))
          have h3' : ((ns.length : Int) == 3) = false := by rw [beq_eq_false_iff_ne]; omega
          clear hr h3
          obtain ⟨a3, cap3, rfl⟩ := owns_form ho3
          clear ho3
          go_wp2
          go_returns
          exact ⟨⟨0, .inr ⟨k, f, ⟨HP.out, .inl ⟨by rw [HM.out]; omega, HB.out⟩⟩, rfl⟩⟩, by (repeat' (first | (with_reducible exact Below.refl _ _) | (with_reducible assumption) | (with_reducible refine Below.alloc ?_ ?_ _) | (with_reducible refine Below.drew ?_) | (with_reducible refine below_drewN ?_ _) | (with_reducible refine Below.setCell ?_ ?_ _) | (with_reducible refine below_after ?_ ?_ _) | (with_reducible refine below_set ?_) | (with_reducible refine After.size_le _ ?_) | (with_reducible refine size_alloc_le ?_) | (with_reducible refine size_set_le ?_) | (with_reducible refine size_drewN_le ?_) | go_size))⟩
      · have HB := Lib.hid (noLine_num (f := f) HT.out hbad)
        clear hbad
        go_wp2
        go_returns
        exact ⟨⟨0, .inr ⟨k, f, ⟨HP.out, .inl ⟨by rw [HM.out]; omega, HB.out⟩⟩, rfl⟩⟩, by (repeat' (first | (with_reducible exact Below.refl _ _) | (with_reducible assumption) | (with_reducible refine Below.alloc ?_ ?_ _) | (with_reducible refine Below.drew ?_) | (with_reducible refine below_drewN ?_ _) | (with_reducible refine Below.setCell ?_ ?_ _) | (with_reducible refine below_after ?_ ?_ _) | (with_reducible refine below_set ?_) | (with_reducible refine After.size_le _ ?_) | (with_reducible refine size_alloc_le ?_) | (with_reducible refine size_set_le ?_) | (with_reducible refine size_drewN_le ?_) | go_size))⟩
    · obtain rfl : k = m := by omega
      obtain ⟨t, ht⟩ : ∃ t, ls[k]? = some t := ⟨_, List.getElem?_eq_getElem (by have := HM.out; omega)⟩
      have hc := HC.out k t ht
      have HT := Lib.hid ht
      obtain ⟨av, capv, rfl⟩ : ∃ av capv, u6 = .slice av k capv := owns_form hown
      have HO := Lib.hid hown
      clear ht hown
      by_cases h0 : t = []
      · subst h0
        by_cases hk0 : k = 0
        · subst hk0
          go_wp2
          go_returns
          exact ⟨⟨0, .inr ⟨0, f, ⟨HP.out, .inr ⟨HM.out, .inl rfl⟩⟩, rfl⟩⟩, by (repeat' (first | (with_reducible exact Below.refl _ _) | (with_reducible assumption) | (with_reducible refine Below.alloc ?_ ?_ _) | (with_reducible refine Below.drew ?_) | (with_reducible refine below_drewN ?_ _) | (with_reducible refine Below.setCell ?_ ?_ _) | (with_reducible refine below_after ?_ ?_ _) | (with_reducible refine below_set ?_) | (with_reducible refine After.size_le _ ?_) | (with_reducible refine size_alloc_le ?_) | (with_reducible refine size_set_le ?_) | (with_reducible refine size_drewN_le ?_) | go_size))⟩
        · have hk1 : ((k : Int) == 0) = false := by rw [beq_eq_false_iff_ne]; omega
          go_wp2
          go_returns
          exact ⟨⟨_, .inl ⟨k, f, _, ⟨HP.out, HM.out, by omega, HT.out⟩, rfl, HO.out⟩⟩, by (repeat' (first | (with_reducible exact Below.refl _ _) | (with_reducible assumption) | (with_reducible refine Below.alloc ?_ ?_ _) | (with_reducible refine Below.drew ?_) | (with_reducible refine below_drewN ?_ _) | (with_reducible refine Below.setCell ?_ ?_ _) | (with_reducible refine below_after ?_ ?_ _) | (with_reducible refine below_set ?_) | (with_reducible refine After.size_le _ ?_) | (with_reducible refine size_alloc_le ?_) | (with_reducible refine size_set_le ?_) | (with_reducible refine size_drewN_le ?_) | go_size))⟩
      · have h0' : (t == []) = false := beq_eq_false_iff_ne.2 h0
        have HS := Lib.hid (show Stops ls k f from ⟨HP.out, .inr ⟨HM.out, .inr (by rw [HT.out]; intro e; exact h0 (Option.some.inj e))⟩⟩)
        go_wp2
        go_returns
        exact ⟨⟨0, .inr ⟨k, f, HS.out, rfl⟩⟩, by (repeat' (first | (with_reducible exact Below.refl _ _) | (with_reducible assumption) | (with_reducible refine Below.alloc ?_ ?_ _) | (with_reducible refine Below.drew ?_) | (with_reducible refine below_drewN ?_ _) | (with_reducible refine Below.setCell ?_ ?_ _) | (with_reducible refine below_after ?_ ?_ _) | (with_reducible refine below_set ?_) | (with_reducible refine After.size_le _ ?_) | (with_reducible refine size_alloc_le ?_) | (with_reducible refine size_set_le ?_) | (with_reducible refine size_drewN_le ?_) | go_size))⟩
end Go.Proofs.YtldopcneellfbaaGreatDoor
