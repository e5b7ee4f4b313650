/- The reference's Parse of a text of uses. -/
import Derived.Test.YtccjfmhbmieigaaDoorTwom
import Derived.Test.YtccjfmhbmieigaaDoorWordsr
import Derived.Test.YtccjfmhbmieigaaDoorRoSame
import Derived.Deep.RegionHeld3
namespace Go.Proofs.YtccjfmhbmieigaaDoor
open Go.RowKit Ro
attribute [local go_sem] After.cell After.frozen After.lt After.le After.ne After.ne' After.set_eq After.size_set After.lt_add tx_size tx_toList

/-- What a Parse of at most 65536 bytes answers. -/
def PAnsU (w' : World) (B : Nat) (ls : List (List UInt8)) (x : Ending) : Prop :=
  (∃ ps v, WholeU ls ps ∧ x = .returned (.tuple #[v, .int .i64 0, .int .i64 0]) ∧ w'.ownsRow B 75 2 v ps.length (pcv ps)) ∨
  (∃ k : Nat, StopsU ls k ∧ x = .returned (.tuple #[.slice none 0 0, .int .i64 k, .int .i64 2]))
theorem wordsU_le (mark : UInt8) (s : List UInt8) : ∀ x ∈ wordsL mark s, x.length ≤ s.length := by
  have key : ∀ s : List UInt8, (∀ x ∈ (cutW mark s).1, x.length ≤ s.length) ∧ (cutW mark s).2.length ≤ s.length := by
    intro s
    induction s with
    | nil => simp [cutW]
    | cons c cs ih =>
      simp only [cutW]
      by_cases h : c = mark
      · simp only [h, if_true, List.length_cons]
        exact ⟨fun x hx => by
          rcases List.mem_cons.1 hx with rfl | hx
          · simp
          · have := ih.1 x hx; omega, by omega⟩
      · simp only [h, if_false]
        cases hv : (cutW mark cs).1 with
        | nil => simp; omega
        | cons v vs =>
          rw [hv] at ih
          refine ⟨fun x hx => ?_, by simp; omega⟩
          rcases List.mem_cons.1 hx with rfl | hx
          · have := ih.1 v (by simp); simp; omega
          · have := ih.1 x (by simp [hx]); simp; omega
  intro x hx
  unfold wordsL at hx
  rcases List.mem_append.1 hx with hx | hx
  · exact (key s).1 x hx
  · rw [List.mem_singleton.1 hx]; exact (key s).2
theorem wordsU_pos (mark : UInt8) (s : List UInt8) : 1 ≤ (wordsL mark s).length := by simp [wordsL]
theorem noU_words {ls : List (List UInt8)} {ps : List (Int × Int)} {k : Nat} {t : List UInt8} (hk : ps.length = k) (ht : ls[k]? = some t) (hb : ∀ p, GoodU (ps ++ [p]) → wordsL 32 t ≠ [Lib.itoa p.1, Lib.itoa p.2]) : NoU ls ps := by
  subst hk
  intro t' p ht' e hG
  rw [ht] at ht'
  cases ht'
  exact hb p hG (by rw [e, words_use])
theorem in2_last {ps : List (Int × Int)} {p : Int × Int} (h : GoodU (ps ++ [p])) : In2 p := goodU_in2 h (i := ps.length) (by simp)
theorem noU_num {ls : List (List UInt8)} {ps : List (Int × Int)} {k : Nat} {t : List UInt8} (hk : ps.length = k) (ht : ls[k]? = some t) (hb : ∃ x ∈ wordsL 32 t, ¬ NumOk x) : NoU ls ps := noU_words hk ht fun p hG hw => by
  obtain ⟨x, hx, hn⟩ := hb
  rw [hw] at hx
  have h2 := in2_last hG
  simp only [List.mem_cons, List.not_mem_nil, or_false] at hx
  rcases hx with rfl | rfl
  · exact hn ⟨_, h2.1, rfl⟩
  · exact hn ⟨_, h2.2, rfl⟩
theorem noU_len {ls : List (List UInt8)} {ps : List (Int × Int)} {k : Nat} {t : List UInt8} (hk : ps.length = k) (ht : ls[k]? = some t) (hb : (wordsL 32 t).length ≠ 2) : NoU ls ps := noU_words hk ht fun p _ hw => hb (by rw [hw]; rfl)
theorem noU_bad {ls : List (List UInt8)} {ps : List (Int × Int)} {k : Nat} {t : List UInt8} {p : Int × Int} (hk : ps.length = k) (ht : ls[k]? = some t) (hw : t = useL p) (hi : In2 p) (hb : ¬ GoodU (ps ++ [p])) : NoU ls ps := by
  subst hk
  intro t' q ht' e hG
  rw [ht] at ht'
  cases ht'
  rw [hw] at e
  rw [use_inj hi (in2_last hG) e] at hb
  exact hb hG
theorem reads_two {ws : List (List UInt8)} {ns : List Int} (h : Reads ws ns) (h2 : ns.length = 2) : ∃ p : Int × Int, ns = [p.1, p.2] ∧ ws = [Lib.itoa p.1, Lib.itoa p.2] ∧ In2 p := by
  obtain ⟨hl, hr⟩ := h
  match ns, h2 with
  | [a, b], _ =>
    refine ⟨(a, b), rfl, ?_, (hr 0 a rfl).1, (hr 1 b rfl).1⟩
    have w0 := (hr 0 a rfl).2
    have w1 := (hr 1 b rfl).2
    match ws, hl with
    | [x0, x1], _ =>
      simp at w0 w1
      rw [w0, w1]
theorem pu_put {ls : List (List UInt8)} {ps : List (Int × Int)} {k : Nat} {p : Int × Int} (hp : PU ls ps) (hk : ps.length = k) (ht : ls[k]? = some (useL p)) (hG : GoodU (ps ++ [p])) : PU ls (ps ++ [p]) := by
  subst hk
  refine ⟨hG, fun i q hq => ?_⟩
  rcases Nat.lt_or_ge i ps.length with h | h
  · rw [List.getElem?_append_left h] at hq
    exact hp.2 i q hq
  · have hi := (List.getElem?_eq_some_iff.1 hq).1
    simp at hi
    obtain rfl : i = ps.length := by omega
    simp at hq
    rw [← hq]; exact ht
theorem rvalid_putU {W : World} {B : Nat} {v : Value} {k : Nat} {ps : List (Int × Int)} {p : Int × Int} (ho : W.ownsRow B 75 2 v (k + 1) (pcv (ps ++ [p]))) (hk : ps.length = k) (hk5 : k ≤ 500) :
    Calls Tryd.prog 17 #[v] W fun x w' => x = .returned (.bool (decide (GoodU (ps ++ [p])))) ∧ Below W.heap.size W w' := by
  have hl : (ps ++ [p]).length = k + 1 := by simp [hk]
  rw [← hl] at ho
  exact rvalidUses_v v (ps ++ [p]) W (prc_owns ho) (by omega) _ rfl

set_option maxRecDepth 100000 in
set_option maxHeartbeats 2000000 in
theorem rparseU_long (s : List UInt8) (w : World) (hs : 65536 < s.length) :
    Calls Tryd.prog 13 #[.string (tx s)] w fun e w' => e = .returned (.tuple #[.slice none 0 0, .int .i64 0, .int .i64 3]) ∧ Below w.heap.size w w' := by
  have hs' : (65536 : Int) < (s.length : Int) := by omega
  go_enter Tryd.func13, Tryd.ntmps13
  go_wp2
  go_returns
  exact ⟨rfl, by (repeat' (first | (with_reducible exact Below.refl _ _) | (with_reducible assumption) | (with_reducible refine Below.alloc ?_ ?_ _) | (with_reducible refine Below.drew ?_) | (with_reducible refine below_drewN ?_ _) | (with_reducible refine Below.setCell ?_ ?_ _) | (with_reducible refine below_after ?_ ?_ _) | (with_reducible refine below_set ?_) | (with_reducible refine After.size_le _ ?_) | (with_reducible refine size_alloc_le ?_) | (with_reducible refine size_set_le ?_) | (with_reducible refine size_drewN_le ?_) | go_size))⟩
theorem ownsU_stay {W W' : World} {B : Nat} {T : TypeId} {c n : Nat} {v : Value} {xs : List Value} (h : W.ownsRow B T c v n xs) (hb : Below W.heap.size W W') : W'.ownsRow B T c v n xs := by
  obtain ⟨q1, q2 | ⟨g', cap', cur, a1, a2, a3, a4⟩⟩ := h
  · exact ⟨q1, .inl q2⟩
  · exact ⟨q1, .inr ⟨g', cap', cur, a1, a2, (hb.block g' (Array.getElem?_eq_some_iff.1 a3).1).trans a3, a4⟩⟩
theorem ownsU_shape {W : World} {B : Nat} {T : TypeId} {c n : Nat} {v : Value} {xs : List Value} (h : W.ownsRow B T c v n xs) : ∃ a cap, v = .slice a n cap := by
  rcases Nat.eq_zero_or_pos n with rfl | h0
  · rcases Go.Joins.ownsRow_forms h with ⟨rfl, _⟩ | ⟨g, c, rfl⟩
    · exact ⟨_, _, rfl⟩
    · exact ⟨_, _, rfl⟩
  · obtain ⟨g, cap, rfl⟩ := Go.Joins.ownsRow_form h h0
    exact ⟨_, _, rfl⟩
set_option maxRecDepth 100000 in
set_option maxHeartbeats 4000000 in
theorem rparseU_any (s : List UInt8) (w : World) (hs : s.length ≤ 65536) :
    Calls Tryd.prog 13 #[.string (tx s)] w fun e w' => (∃ B, PAnsU w' B (wordsL 10 s) e) ∧ Below w.heap.size w w' := by
  obtain ⟨i0, hi, hz0, hz1, hz2⟩ := info_parts useInfo
  have hs' : (s.length : Int) ≤ 65536 := by omega
  have hle := wordsU_le 10 s
  have hl1 := wordsL_len 10 s
  have hl0 := wordsU_pos 10 s
  have hw0 := fun V => words_any s 10 V (by omega)
  generalize wordsL 10 s = ls at *
  obtain ⟨m, hm⟩ : ∃ m, ls.length = m + 1 := ⟨ls.length - 1, by omega⟩
  have HW : Hid (∀ V : World, Calls Tryd.prog 22 #[.string (tx s), .int .u8 10] V _) := Lib.hid hw0
  have HLe := Lib.hid hle
  have HM := Lib.hid hm
  have hm0 : m ≤ 65536 := by omega
  clear hw0 hle hl1 hl0 hm
  go_enter Tryd.func13, Tryd.ntmps13
  go_wp2_with fail
  refine (HW.out _).mono ?_
  rintro e0 w1 ⟨v1, rfl, ho1, hb1⟩
  have hT := trow_of ho1
  clear HW ho1
  obtain ⟨a, cap, rfl, hcell⟩ := hT
  obtain ⟨g, rfl, hg, hcell⟩ := hcell (by have := HM.out; omega)
  have HC := Lib.hid hcell
  clear hcell
  have hm := HM.out
  rw [hm]
  clear hm
  obtain ⟨x1, rfl⟩ := after_of' hb1
  clear hb1
  go_wp2
  go_loopw [6, 7] (fun v i wr => ∃ (k : Nat) (ps : List (Int × Int)), k ≤ m ∧ i = .int .i64 k ∧ PU ls ps ∧ ps.length = k ∧ ∃ y : After x1.w, wr = y.w ∧ y.w.ownsRow x1.w.heap.size 75 2 v k (pcv ps)) (fun _ i _ => m - (intOf i).toNat)
  case atStart => exact ⟨0, [], by omega, rfl, ⟨by decide, fun i p h => by simp at h⟩, rfl, ⟨x1.w, Below.refl _ _⟩, rfl, World.ownsRow_nil _ _ _ _⟩
  case round =>
    obtain ⟨k, ps, hk, rfl, hp, hpk, y, rfl, hown⟩ := hrel
    have hsy := y.out.size
    have hk40 := hp.1.1
    have HPk := Lib.hid hpk
    rw [hpk] at hk40
    clear hpk
    have HP := Lib.hid hp
    clear hp
    have hgy := y.size_lt hg
    by_cases hlt : k < m
    · obtain ⟨t, ht⟩ : ∃ t, ls[k]? = some t := ⟨_, List.getElem?_eq_getElem (by have := HM.out; omega)⟩
      have hc := HC.out k t ht
      have htl := HLe.out t (List.mem_of_getElem? ht)
      have HT := Lib.hid ht
      clear ht
      have hkm : (k : Int) < (m : Int) := by omega
      have HK1 : Hid (∀ V : World, Calls Tryd.prog 22 #[.string (tx t), .int .u8 32] V _) := Lib.hid fun V => words_any t 32 V (by omega)
      go_wp2_with fail
      refine (HK1.out _).mono ?_
      rintro e2 w2 ⟨v2, rfl, ho2, hb2⟩
      have hown2 := ownsU_stay hown hb2
      have HK2 := Lib.hid (numbers_any v2 (wordsL 32 t) w2 (by have := wordsL_len 32 t; omega) (fun x hx => by have := wordsU_le 32 t x hx; omega) (trow_of ho2))
      obtain ⟨y2, rfl⟩ := after_of' (y.out.trans (hb2.mono y.out.size))
      clear hb2 ho2 hown HK1
      go_wp2_with fail
      refine HK2.out.mono ?_
      rintro e3 w3 ⟨hans, hb3⟩
      have hown3 := ownsU_stay hown2 hb3
      obtain ⟨y3, rfl⟩ := after_of' (y2.out.trans (hb3.mono y2.out.size))
      have hu6 : ∀ j, some j = u6.ownBlock → j < y2.w.heap.size := fun j e => (hown2.lt j e.symm).2
      clear hb3 hown2 HK2
      rcases hans with ⟨ns, v3, hr, rfl, ho3⟩ | ⟨hbad, rfl⟩
      · by_cases h3 : ns.length = 2
        · obtain ⟨p, rfl, hws, iF⟩ := reads_two hr h3
          have HWs := Lib.hid (use_of_words hws)
          have HI := Lib.hid iF
          clear hr h3 hws iF
          obtain ⟨g3, cap3, rfl⟩ := Go.Joins.ownsRow_form ho3 (by simp)
          have c0 : y3.w.cell? ⟨g3, 0, none⟩ = some (.int .i64 p.1) := by rw [ho3.cellAt _ (by simp)]; rfl
          have c1 : y3.w.cell? ⟨g3, 1, none⟩ = some (.int .i64 p.2) := by rw [ho3.cellAt _ (by simp)]; rfl
          have hg3 := (ho3.lt g3 rfl).2
          have hg3' := (ho3.lt g3 rfl).1
          have hsy2 := y2.out.size
          have hsy3 := y3.out.size
          have ag : some g3 ≠ u6.ownBlock := fun e => by have := hu6 g3 e; omega
          clear ho3
          simp only [List.length_cons, List.length_nil]
          have HSn := Lib.hid (pcv_snoc ps p)
          go_wp2_with fail
          go_region_held3 (fun w' => w'.cell? ⟨g3, 0, none⟩ = some (.int .i64 p.1) ∧ w'.cell? ⟨g3, 1, none⟩ = some (.int .i64 p.2))
            (first
              | go_keep
              | (go_split_ands
                 refine ⟨?_, ?_⟩
                 · (rw [hgrow.cell_far _ (by simp; omega) ag]; assumption)
                 · (rw [hgrow.cell_far _ (by simp; omega) ag]; assumption)))
            ((refine step_append_lies _ (by rfl) _ _ _ (by rfl) x1.w.heap.size 75 i0 _ 2 16 Tryd.underlying30 hi hz0 hz1 hz2 rfl (by omega) u6 k (pcv ps) (by rfl) ((hown3.alloc _).drew)
                ⟨y3.w.heap.size, 0, none⟩ 1 1 [.int .i64 p.1, .int .i64 p.2] (by rfl) (by rfl) (World.news_of_block (cs := #[.int .i64 p.1, .int .i64 p.2]) (t := 75) (fr := (0, 0)) (heap_alloc_new y3.w _)) (by simp [Value.oneCell'])
                (by omega) (by unfold maxLen; omega) (by omega) (by simp; omega) (y3.w.heap.size + 1) (by simp) ?_; intro gg cap2 w4 hown4 hgrow hat hlt2))
          have hbel4 : Below x1.w.heap.size x1.w w4 := (y3.out.alloc y3.out.size (.cells #[.int .i64 p.1, .int .i64 p.2] 75)).drew.grown hgrow (by simp; omega) (fun j e => (hown3.lt j e).1)
          rw [← HSn.out] at hown4
          have HO4 := Lib.hid hown4
          obtain ⟨y4, rfl⟩ := after_of' hbel4
          clear hown4 hgrow hat hlt2 hbel4 hown3
          have HV := Lib.hid (rvalid_putU HO4.out HPk.out hk40)
          go_wp2_with fail
          refine HV.out.mono ?_
          rintro e5 w5 ⟨rfl, hb5⟩
          have HO5 := Lib.hid (ownsU_stay HO4.out hb5)
          obtain ⟨y5, rfl⟩ := after_of' (y4.out.trans (hb5.mono y4.out.size))
          clear HO4 HV hb5
          by_cases hf : GoodU (ps ++ [p])
          · have hd : decide (GoodU (ps ++ [p])) = true := decide_eq_true hf
            have HF := Lib.hid hf
            rw [hd]
            clear hd hf
            go_wp2
            go_roundw
            case rel => exact ⟨k + 1, ps ++ [p], by omega, by go_num, pu_put HP.out HPk.out (by rw [HT.out, HWs.out]) HF.out, by simp [HPk.out], y5, rfl, HO5.out⟩
            case measure => simp [intOf]; omega
          · have hd : decide (GoodU (ps ++ [p])) = false := decide_eq_false hf
            have HB := Lib.hid (noU_bad HPk.out HT.out HWs.out HI.out hf)
            rw [hd]
            clear hd hf
            go_wp2
            go_returns
            exact ⟨⟨0, .inr ⟨k, ⟨ps, HP.out, HPk.out, .inl ⟨by rw [HM.out]; omega, HB.out⟩⟩, rfl⟩⟩, by (repeat' (first | (with_reducible exact Below.refl _ _) | (with_reducible assumption) | (with_reducible refine Below.alloc ?_ ?_ _) | (with_reducible refine Below.drew ?_) | (with_reducible refine below_drewN ?_ _) | (with_reducible refine Below.setCell ?_ ?_ _) | (with_reducible refine below_after ?_ ?_ _) | (with_reducible refine below_set ?_) | (with_reducible refine After.size_le _ ?_) | (with_reducible refine size_alloc_le ?_) | (with_reducible refine size_set_le ?_) | (with_reducible refine size_drewN_le ?_) | go_size))⟩
        · have HB := Lib.hid (noU_len HPk.out HT.out (by rw [← hr.1]; exact h3))
          have h3' : ((ns.length : Int) == 2) = false := by rw [beq_eq_false_iff_ne]; omega
          clear hr h3
          obtain ⟨a3, cap3, rfl⟩ := ownsU_shape ho3
          clear ho3
          go_wp2
          go_returns
          exact ⟨⟨0, .inr ⟨k, ⟨ps, HP.out, HPk.out, .inl ⟨by rw [HM.out]; omega, HB.out⟩⟩, rfl⟩⟩, by (repeat' (first | (with_reducible exact Below.refl _ _) | (with_reducible assumption) | (with_reducible refine Below.alloc ?_ ?_ _) | (with_reducible refine Below.drew ?_) | (with_reducible refine below_drewN ?_ _) | (with_reducible refine Below.setCell ?_ ?_ _) | (with_reducible refine below_after ?_ ?_ _) | (with_reducible refine below_set ?_) | (with_reducible refine After.size_le _ ?_) | (with_reducible refine size_alloc_le ?_) | (with_reducible refine size_set_le ?_) | (with_reducible refine size_drewN_le ?_) | go_size))⟩
      · have HB := Lib.hid (noU_num HPk.out HT.out hbad)
        clear hbad
        go_wp2
        go_returns
        exact ⟨⟨0, .inr ⟨k, ⟨ps, HP.out, HPk.out, .inl ⟨by rw [HM.out]; omega, HB.out⟩⟩, rfl⟩⟩, by (repeat' (first | (with_reducible exact Below.refl _ _) | (with_reducible assumption) | (with_reducible refine Below.alloc ?_ ?_ _) | (with_reducible refine Below.drew ?_) | (with_reducible refine below_drewN ?_ _) | (with_reducible refine Below.setCell ?_ ?_ _) | (with_reducible refine below_after ?_ ?_ _) | (with_reducible refine below_set ?_) | (with_reducible refine After.size_le _ ?_) | (with_reducible refine size_alloc_le ?_) | (with_reducible refine size_set_le ?_) | (with_reducible refine size_drewN_le ?_) | go_size))⟩
    · obtain rfl : k = m := by omega
      obtain ⟨t, ht⟩ : ∃ t, ls[k]? = some t := ⟨_, List.getElem?_eq_getElem (by have := HM.out; omega)⟩
      have hc := HC.out k t ht
      have HT := Lib.hid ht
      obtain ⟨av, capv, rfl⟩ : ∃ av capv, u6 = .slice av k capv := ownsU_shape hown
      have HO := Lib.hid hown
      clear ht hown
      by_cases h0 : t = []
      · subst h0
        go_wp2
        go_returns
        exact ⟨⟨_, .inl ⟨ps, _, ⟨HP.out, by rw [HM.out, HPk.out], by rw [HPk.out]; exact HT.out⟩, rfl, by rw [HPk.out]; exact HO.out⟩⟩, by (repeat' (first | (with_reducible exact Below.refl _ _) | (with_reducible assumption) | (with_reducible refine Below.alloc ?_ ?_ _) | (with_reducible refine Below.drew ?_) | (with_reducible refine below_drewN ?_ _) | (with_reducible refine Below.setCell ?_ ?_ _) | (with_reducible refine below_after ?_ ?_ _) | (with_reducible refine below_set ?_) | (with_reducible refine After.size_le _ ?_) | (with_reducible refine size_alloc_le ?_) | (with_reducible refine size_set_le ?_) | (with_reducible refine size_drewN_le ?_) | go_size))⟩
      · have h0' : (t == []) = false := beq_eq_false_iff_ne.2 h0
        have HS := Lib.hid (show StopsU ls k from ⟨ps, HP.out, HPk.out, .inr ⟨HM.out, by rw [HT.out]; intro e; exact h0 (Option.some.inj e)⟩⟩)
        go_wp2
        go_returns
        exact ⟨⟨0, .inr ⟨k, HS.out, rfl⟩⟩, by (repeat' (first | (with_reducible exact Below.refl _ _) | (with_reducible assumption) | (with_reducible refine Below.alloc ?_ ?_ _) | (with_reducible refine Below.drew ?_) | (with_reducible refine below_drewN ?_ _) | (with_reducible refine Below.setCell ?_ ?_ _) | (with_reducible refine below_after ?_ ?_ _) | (with_reducible refine below_set ?_) | (with_reducible refine After.size_le _ ?_) | (with_reducible refine size_alloc_le ?_) | (with_reducible refine size_set_le ?_) | (with_reducible refine size_drewN_le ?_) | go_size))⟩
end Go.Proofs.YtccjfmhbmieigaaDoor
