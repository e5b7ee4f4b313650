/- The reference's Parse of a stack's text. -/
import Derived.Test.YtcaelmaoldmgpaaDoorSixm
import Derived.Test.YtcaelmaoldmgpaaDoorWordsr
import Derived.Test.YtcaelmaoldmgpaaDoorCrCrown
import Derived.Deep.RegionHeld3
namespace Go.Proofs.YtcaelmaoldmgpaaDoor
open Go.RowKit Cr
attribute [local go_sem] After.cell After.frozen After.lt After.le After.ne After.ne' After.set_eq After.size_set After.lt_add tx_size tx_toList

theorem crc_put {f : Nat → Nat → Int} {k : Nat} (F : Nat → Int) : crc (k + 1) (putR f k F) = crc k f ++ c6 F := by
  rw [crc_succ, putR_new]
  congr 1
  exact crc_congr fun i j hi _ => by rw [putR_old F (by omega)]
/-- What a Parse of at most 65536 bytes answers. -/
def PAnsC (w' : World) (B : Nat) (ls : List (List UInt8)) (x : Ending) : Prop :=
  (∃ k f v, WholeC ls k f ∧ x = .returned (.tuple #[v, .int .i64 0, .int .i64 0]) ∧ w'.ownsRow B 38 6 v k (crc k f)) ∨
  (∃ k : Nat, StopsC ls k ∧ x = .returned (.tuple #[.slice none 0 0, .int .i64 k, .int .i64 2]))
theorem words_le (mark : UInt8) (s : List UInt8) : ∀ x ∈ wordsL mark s, x.length ≤ s.length := by
  have key : ∀ s : List UInt8, (∀ x ∈ (cutW mark s).1, x.length ≤ s.length) ∧ (cutW mark s).2.length ≤ s.length := by
    intro s
    induction s with
    | nil => simp [cutW]
    | cons c cs ih =>
      simp only [cutW]
      by_cases h : c = mark
      · simp only [h, if_true, List.length_cons]
        exact ⟨fun x hx => by
          rcases List.mem_cons.1 hx with rfl | hx
          · simp
          · have := ih.1 x hx; omega, by omega⟩
      · simp only [h, if_false]
        cases hv : (cutW mark cs).1 with
        | nil => simp; omega
        | cons v vs =>
          rw [hv] at ih
          refine ⟨fun x hx => ?_, by simp; omega⟩
          rcases List.mem_cons.1 hx with rfl | hx
          · have := ih.1 v (by simp); simp; omega
          · have := ih.1 x (by simp [hx]); simp; omega
  intro x hx
  unfold wordsL at hx
  rcases List.mem_append.1 hx with hx | hx
  · exact (key s).1 x hx
  · rw [List.mem_singleton.1 hx]; exact (key s).2
theorem words_pos (mark : UInt8) (s : List UInt8) : 1 ≤ (wordsL mark s).length := by simp [wordsL]
theorem noL_words {ls : List (List UInt8)} {k : Nat} {t : List UInt8} (ht : ls[k]? = some t) (hb : ∀ F, OkR F → k < 60 → wordsL 32 t ≠ sixW F) : NoL ls k := by
  intro t' ht' F hF hk e
  rw [ht] at ht'
  cases ht'
  exact hb F hF hk (by rw [e, words_row])
theorem noL_num {ls : List (List UInt8)} {k : Nat} {t : List UInt8} (ht : ls[k]? = some t) (hb : ∃ x ∈ wordsL 32 t, ¬ NumOk x) : NoL ls k := noL_words ht fun F hF _ hw => by
  obtain ⟨x, hx, hn⟩ := hb
  rw [hw] at hx
  have h6 := hF.in6
  unfold sixW at hx
  simp only [List.mem_cons, List.not_mem_nil, or_false] at hx
  rcases hx with rfl | rfl | rfl | rfl | rfl | rfl
  · exact hn ⟨_, h6 0 (by omega), rfl⟩
  · exact hn ⟨_, h6 1 (by omega), rfl⟩
  · exact hn ⟨_, h6 2 (by omega), rfl⟩
  · exact hn ⟨_, h6 3 (by omega), rfl⟩
  · exact hn ⟨_, h6 4 (by omega), rfl⟩
  · exact hn ⟨_, h6 5 (by omega), rfl⟩
theorem noL_len {ls : List (List UInt8)} {k : Nat} {t : List UInt8} (ht : ls[k]? = some t) (hb : (wordsL 32 t).length ≠ 6) : NoL ls k := noL_words ht fun F _ _ hw => hb (by rw [hw]; rfl)
theorem okR_congr {F G : Nat → Int} (h : ∀ j, j < 6 → F j = G j) : OkR F ↔ OkR G := by
  unfold OkR
  rw [h 0 (by omega), h 1 (by omega), h 2 (by omega), h 3 (by omega), h 4 (by omega), h 5 (by omega)]
theorem noL_bad {ls : List (List UInt8)} {k : Nat} {t : List UInt8} {F : Nat → Int} (ht : ls[k]? = some t) (hw : t = rowL F) (hi : In6 F) (hb : ¬ (OkR F ∧ k < 60)) : NoL ls k := by
  intro t' ht' G hG hk e
  rw [ht] at ht'
  cases ht'
  rw [hw] at e
  exact hb ⟨(okR_congr (row_inj hi hG.in6 e)).2 hG, hk⟩
theorem reads_six {ws : List (List UInt8)} {ns : List Int} (h : Reads ws ns) (h6 : ns.length = 6) : ∃ F, ns = [F 0, F 1, F 2, F 3, F 4, F 5] ∧ ws = sixW F ∧ In6 F := by
  obtain ⟨hl, hr⟩ := h
  match ns, h6 with
  | [a, b, c, d, e, g], _ =>
    refine ⟨fun j => if j = 0 then a else if j = 1 then b else if j = 2 then c else if j = 3 then d else if j = 4 then e else g, rfl, ?_, ?_⟩
    · have w0 := (hr 0 a rfl).2
      have w1 := (hr 1 b rfl).2
      have w2 := (hr 2 c rfl).2
      have w3 := (hr 3 d rfl).2
      have w4 := (hr 4 e rfl).2
      have w5 := (hr 5 g rfl).2
      match ws, hl with
      | [x0, x1, x2, x3, x4, x5], _ =>
        simp at w0 w1 w2 w3 w4 w5
        rw [w0, w1, w2, w3, w4, w5]
        rfl
    · intro j hj
      rcases (show j = 0 ∨ j = 1 ∨ j = 2 ∨ j = 3 ∨ j = 4 ∨ j = 5 by omega) with rfl | rfl | rfl | rfl | rfl | rfl
      · exact (hr 0 a rfl).1
      · exact (hr 1 b rfl).1
      · exact (hr 2 c rfl).1
      · exact (hr 3 d rfl).1
      · exact (hr 4 e rfl).1
      · exact (hr 5 g rfl).1
theorem good_put {f : Nat → Nat → Int} {k : Nat} {F : Nat → Int} (hg : ∀ i, i < k → OkR (f i)) : GoodC (k + 1) (putR f k F) ↔ OkR F ∧ k < 60 := by
  constructor
  · intro ⟨_, h2, h3⟩
    have := h3 k (by omega)
    unfold OkC at this
    rw [putR_new] at this
    exact ⟨this, by omega⟩
  · intro ⟨h1, h2⟩
    refine ⟨by omega, by omega, fun i hi => ?_⟩
    unfold OkC
    rcases Nat.lt_or_ge i k with h4 | h4
    · rw [putR_old F (by omega)]; exact hg i h4
    · rw [show i = k by omega, putR_new]; exact h1
theorem rvalid_putC {W : World} {B : Nat} {v : Value} {k : Nat} {f : Nat → Nat → Int} {F : Nat → Int} (ho : W.ownsRow B 38 6 v (k + 1) (crc (k + 1) (putR f k F))) (hk : k ≤ 60) (hg : ∀ i, i < k → OkR (f i)) :
    Calls Tryd.prog 24 #[v] W fun x w' => x = .returned (.bool (decide (OkR F ∧ k < 60))) ∧ Below W.heap.size W w' := by
  have hd : decide (OkR F ∧ k < 60) = decide (GoodC (k + 1) (putR f k F)) := decide_eq_decide.2 (good_put hg).symm
  rw [hd]
  exact rcsay (crOwn_of ho (by omega)).row.crs (by omega) W (Below.refl _ _)

set_option maxRecDepth 100000 in
set_option maxHeartbeats 2000000 in
theorem rparseC_long (s : List UInt8) (w : World) (hs : 65536 < s.length) :
    Calls Tryd.prog 7 #[.string (tx s)] w fun e w' => e = .returned (.tuple #[.slice none 0 0, .int .i64 0, .int .i64 3]) ∧ Below w.heap.size w w' := by
  have hs' : (65536 : Int) < (s.length : Int) := by omega
  go_enter Tryd.func7, Tryd.ntmps7
  go_wp2
  go_returns
  exact ⟨rfl, by (repeat' (first | (with_reducible exact Below.refl _ _) | (with_reducible assumption) | (with_reducible refine Below.alloc ?_ ?_ _) | (with_reducible refine Below.drew ?_) | (with_reducible refine below_drewN ?_ _) | (with_reducible refine Below.setCell ?_ ?_ _) | (with_reducible refine below_after ?_ ?_ _) | (with_reducible refine below_set ?_) | (with_reducible refine After.size_le _ ?_) | (with_reducible refine size_alloc_le ?_) | (with_reducible refine size_set_le ?_) | (with_reducible refine size_drewN_le ?_) | go_size))⟩
theorem owns_stay {W W' : World} {B : Nat} {T : TypeId} {c n : Nat} {v : Value} {xs : List Value} (h : W.ownsRow B T c v n xs) (hb : Below W.heap.size W W') : W'.ownsRow B T c v n xs := by
  obtain ⟨q1, q2 | ⟨g', cap', cur, a1, a2, a3, a4⟩⟩ := h
  · exact ⟨q1, .inl q2⟩
  · exact ⟨q1, .inr ⟨g', cap', cur, a1, a2, (hb.block g' (Array.getElem?_eq_some_iff.1 a3).1).trans a3, a4⟩⟩
theorem owns_shape {W : World} {B : Nat} {T : TypeId} {c n : Nat} {v : Value} {xs : List Value} (h : W.ownsRow B T c v n xs) : ∃ a cap, v = .slice a n cap := by
  rcases Nat.eq_zero_or_pos n with rfl | h0
  · rcases Go.Joins.ownsRow_forms h with ⟨rfl, _⟩ | ⟨g, c, rfl⟩
    · exact ⟨_, _, rfl⟩
    · exact ⟨_, _, rfl⟩
  · obtain ⟨g, cap, rfl⟩ := Go.Joins.ownsRow_form h h0
    exact ⟨_, _, rfl⟩
set_option maxRecDepth 100000 in
set_option maxHeartbeats 4000000 in
theorem rparseC_any (s : List UInt8) (w : World) (hs : s.length ≤ 65536) :
    Calls Tryd.prog 7 #[.string (tx s)] w fun e w' => (∃ B, PAnsC w' B (wordsL 10 s) e) ∧ Below w.heap.size w w' := by
  obtain ⟨i0, hi, hz0, hz1, hz2⟩ := info_parts crInfo
  have hs' : (s.length : Int) ≤ 65536 := by omega
  have hle := words_le 10 s
  have hl1 := wordsL_len 10 s
  have hl0 := words_pos 10 s
  have hw0 := fun V => words_any s 10 V (by omega)
  generalize wordsL 10 s = ls at *
  obtain ⟨m, hm⟩ : ∃ m, ls.length = m + 1 := ⟨ls.length - 1, by omega⟩
  have HW : Hid (∀ V : World, Calls Tryd.prog 22 #[.string (tx s), .int .u8 10] V _) := Lib.hid hw0
  have HLe := Lib.hid hle
  have HM := Lib.hid hm
  have hm0 : m ≤ 65536 := by omega
  clear hw0 hle hl1 hl0 hm
  go_enter Tryd.func7, Tryd.ntmps7
  go_wp2_with fail
  refine (HW.out _).mono ?_
  rintro e0 w1 ⟨v1, rfl, ho1, hb1⟩
  have hT := trow_of ho1
  clear HW ho1
  obtain ⟨a, cap, rfl, hcell⟩ := hT
  obtain ⟨g, rfl, hg, hcell⟩ := hcell (by have := HM.out; omega)
  have HC := Lib.hid hcell
  clear hcell
  have hm := HM.out
  rw [hm]
  clear hm
  obtain ⟨x1, rfl⟩ := after_of' hb1
  clear hb1
  go_wp2
  go_loopw [6, 7] (fun v i wr => ∃ (k : Nat) (f : Nat → Nat → Int), k ≤ m ∧ i = .int .i64 k ∧ PG ls k f ∧ ∃ y : After x1.w, wr = y.w ∧ y.w.ownsRow x1.w.heap.size 38 6 v k (crc k f)) (fun _ i _ => m - (intOf i).toNat)
  case atStart => exact ⟨0, fun _ _ => 0, by omega, rfl, ⟨by omega, fun i hi => absurd hi (by omega)⟩, ⟨x1.w, Below.refl _ _⟩, rfl, World.ownsRow_nil _ _ _ _⟩
  case round =>
    obtain ⟨k, f, hk, rfl, hp, y, rfl, hown⟩ := hrel
    have hsy := y.out.size
    have hk40 := hp.1
    have HP := Lib.hid hp
    clear hp
    have hgy := y.size_lt hg
    by_cases hlt : k < m
    · obtain ⟨t, ht⟩ : ∃ t, ls[k]? = some t := ⟨_, List.getElem?_eq_getElem (by have := HM.out; omega)⟩
      have hc := HC.out k t ht
      have htl := HLe.out t (List.mem_of_getElem? ht)
      have HT := Lib.hid ht
      clear ht
      have hkm : (k : Int) < (m : Int) := by omega
      have HK1 : Hid (∀ V : World, Calls Tryd.prog 22 #[.string (tx t), .int .u8 32] V _) := Lib.hid fun V => words_any t 32 V (by omega)
      go_wp2_with fail
      refine (HK1.out _).mono ?_
      rintro e2 w2 ⟨v2, rfl, ho2, hb2⟩
      have hown2 := owns_stay hown hb2
      have HK2 := Lib.hid (numbers_any v2 (wordsL 32 t) w2 (by have := wordsL_len 32 t; omega) (fun x hx => by have := words_le 32 t x hx; omega) (trow_of ho2))
      obtain ⟨y2, rfl⟩ := after_of' (y.out.trans (hb2.mono y.out.size))
      clear hb2 ho2 hown HK1
      go_wp2_with fail
      refine HK2.out.mono ?_
      rintro e3 w3 ⟨hans, hb3⟩
      have hown3 := owns_stay hown2 hb3
      obtain ⟨y3, rfl⟩ := after_of' (y2.out.trans (hb3.mono y2.out.size))
      have hu6 : ∀ j, some j = u6.ownBlock → j < y2.w.heap.size := fun j e => (hown2.lt j e.symm).2
      clear hb3 hown2 HK2
      rcases hans with ⟨ns, v3, hr, rfl, ho3⟩ | ⟨hbad, rfl⟩
      · by_cases h3 : ns.length = 6
        · obtain ⟨F, rfl, hws, iF⟩ := reads_six hr h3
          have HWs := Lib.hid (row_of_words hws)
          have HI := Lib.hid iF
          clear hr h3 hws iF
          obtain ⟨g3, cap3, rfl⟩ := Go.Joins.ownsRow_form ho3 (by simp)
          have c0 : y3.w.cell? ⟨g3, 0, none⟩ = some (.int .i64 (F 0)) := by rw [ho3.cellAt _ (by simp)]; rfl
          have c1 : y3.w.cell? ⟨g3, 1, none⟩ = some (.int .i64 (F 1)) := by rw [ho3.cellAt _ (by simp)]; rfl
          have c2 : y3.w.cell? ⟨g3, 2, none⟩ = some (.int .i64 (F 2)) := by rw [ho3.cellAt _ (by simp)]; rfl
          have c3 : y3.w.cell? ⟨g3, 3, none⟩ = some (.int .i64 (F 3)) := by rw [ho3.cellAt _ (by simp)]; rfl
          have c4 : y3.w.cell? ⟨g3, 4, none⟩ = some (.int .i64 (F 4)) := by rw [ho3.cellAt _ (by simp)]; rfl
          have c5 : y3.w.cell? ⟨g3, 5, none⟩ = some (.int .i64 (F 5)) := by rw [ho3.cellAt _ (by simp)]; rfl
          have hg3 := (ho3.lt g3 rfl).2
          have hg3' := (ho3.lt g3 rfl).1
          have hsy2 := y2.out.size
          have hsy3 := y3.out.size
          have ag : some g3 ≠ u6.ownBlock := fun e => by have := hu6 g3 e; omega
          clear ho3
          simp only [List.length_cons, List.length_nil]
          have HF6 : Hid (c6 F = [.int .i64 (F 0), .int .i64 (F 1), .int .i64 (F 2), .int .i64 (F 3), .int .i64 (F 4), .int .i64 (F 5)]) := Lib.hid rfl
          go_wp2_with fail
          go_region_held3 (fun w' => w'.cell? ⟨g3, 0, none⟩ = some (.int .i64 (F 0)) ∧ w'.cell? ⟨g3, 1, none⟩ = some (.int .i64 (F 1)) ∧ w'.cell? ⟨g3, 2, none⟩ = some (.int .i64 (F 2)) ∧ w'.cell? ⟨g3, 3, none⟩ = some (.int .i64 (F 3)) ∧ w'.cell? ⟨g3, 4, none⟩ = some (.int .i64 (F 4)) ∧ w'.cell? ⟨g3, 5, none⟩ = some (.int .i64 (F 5)))
            (first
              | go_keep
              | (go_split_ands
                 refine ⟨?_, ?_, ?_, ?_, ?_, ?_⟩
                 · (rw [hgrow.cell_far _ (by simp; omega) ag]; assumption)
                 · (rw [hgrow.cell_far _ (by simp; omega) ag]; assumption)
                 · (rw [hgrow.cell_far _ (by simp; omega) ag]; assumption)
                 · (rw [hgrow.cell_far _ (by simp; omega) ag]; assumption)
                 · (rw [hgrow.cell_far _ (by simp; omega) ag]; assumption)
                 · (rw [hgrow.cell_far _ (by simp; omega) ag]; assumption)))
            ((refine step_append_lies _ (by rfl) _ _ _ (by rfl) x1.w.heap.size 38 i0 _ 6 48 Tryd.underlying22 hi hz0 hz1 hz2 rfl (by omega) u6 k (crc k f) (by rfl) ((hown3.alloc _).drew)
                ⟨y3.w.heap.size, 0, none⟩ 1 1 [.int .i64 (F 0), .int .i64 (F 1), .int .i64 (F 2), .int .i64 (F 3), .int .i64 (F 4), .int .i64 (F 5)] (by rfl) (by rfl) (World.news_of_block (cs := #[.int .i64 (F 0), .int .i64 (F 1), .int .i64 (F 2), .int .i64 (F 3), .int .i64 (F 4), .int .i64 (F 5)]) (t := 38) (fr := (0, 0)) (heap_alloc_new y3.w _)) (by simp [Value.oneCell'])
                (by omega) (by unfold maxLen; omega) (by omega) (by simp; omega) (y3.w.heap.size + 1) (by simp) ?_; intro gg cap2 w4 hown4 hgrow hat hlt2))
          have hbel4 : Below x1.w.heap.size x1.w w4 := (y3.out.alloc y3.out.size (.cells #[.int .i64 (F 0), .int .i64 (F 1), .int .i64 (F 2), .int .i64 (F 3), .int .i64 (F 4), .int .i64 (F 5)] 38)).drew.grown hgrow (by simp; omega) (fun j e => (hown3.lt j e).1)
          rw [← HF6.out, ← crc_put] at hown4
          have HO4 := Lib.hid hown4
          obtain ⟨y4, rfl⟩ := after_of' hbel4
          clear hown4 hgrow hat hlt2 hbel4 hown3
          have HV := Lib.hid (rvalid_putC HO4.out hk40 (fun i hi => (HP.out.2 i hi).1))
          go_wp2_with fail
          refine HV.out.mono ?_
          rintro e5 w5 ⟨rfl, hb5⟩
          have HO5 := Lib.hid (owns_stay HO4.out hb5)
          obtain ⟨y5, rfl⟩ := after_of' (y4.out.trans (hb5.mono y4.out.size))
          clear HO4 HV hb5
          by_cases hf : OkR F ∧ k < 60
          · have hd : decide (OkR F ∧ k < 60) = true := decide_eq_true hf
            have HF := Lib.hid hf
            rw [hd]
            clear hd hf
            go_wp2
            go_roundw
            case rel => exact ⟨k + 1, putR f k F, by omega, by go_num, HP.out.put (by rw [HT.out, HWs.out]) HF.out.1 HF.out.2, y5, rfl, HO5.out⟩
            case measure => simp [intOf]; omega
          · have hd : decide (OkR F ∧ k < 60) = false := decide_eq_false hf
            have HB := Lib.hid (noL_bad HT.out HWs.out HI.out hf)
            rw [hd]
            clear hd hf
            go_wp2
            go_returns
            exact ⟨⟨0, .inr ⟨k, ⟨⟨f, HP.out⟩, .inl ⟨by rw [HM.out]; omega, HB.out⟩⟩, rfl⟩⟩, by (repeat' (first | (with_reducible exact Below.refl _ _) | (with_reducible assumption) | (with_reducible refine Below.alloc ?_ ?_ _) | (with_reducible refine Below.drew ?_) | (with_reducible refine below_drewN ?_ _) | (with_reducible refine Below.setCell ?_ ?_ _) | (with_reducible refine below_after ?_ ?_ _) | (with_reducible refine below_set ?_) | (with_reducible refine After.size_le _ ?_) | (with_reducible refine size_alloc_le ?_) | (with_reducible refine size_set_le ?_) | (with_reducible refine size_drewN_le ?_) | go_size))⟩
        · have HB := Lib.hid (noL_len HT.out (by rw [← hr.1]; exact h3))
          have h3' : ((ns.length : Int) == 6) = false := by rw [beq_eq_false_iff_ne]; omega
          clear hr h3
          obtain ⟨a3, cap3, rfl⟩ := owns_shape ho3
          clear ho3
          go_wp2
          go_returns
          exact ⟨⟨0, .inr ⟨k, ⟨⟨f, HP.out⟩, .inl ⟨by rw [HM.out]; omega, HB.out⟩⟩, rfl⟩⟩, by (repeat' (first | (with_reducible exact Below.refl _ _) | (with_reducible assumption) | (with_reducible refine Below.alloc ?_ ?_ _) | (with_reducible refine Below.drew ?_) | (with_reducible refine below_drewN ?_ _) | (with_reducible refine Below.setCell ?_ ?_ _) | (with_reducible refine below_after ?_ ?_ _) | (with_reducible refine below_set ?_) | (with_reducible refine After.size_le _ ?_) | (with_reducible refine size_alloc_le ?_) | (with_reducible refine size_set_le ?_) | (with_reducible refine size_drewN_le ?_) | go_size))⟩
      · have HB := Lib.hid (noL_num HT.out hbad)
        clear hbad
        go_wp2
        go_returns
        exact ⟨⟨0, .inr ⟨k, ⟨⟨f, HP.out⟩, .inl ⟨by rw [HM.out]; omega, HB.out⟩⟩, rfl⟩⟩, by (repeat' (first | (with_reducible exact Below.refl _ _) | (with_reducible assumption) | (with_reducible refine Below.alloc ?_ ?_ _) | (with_reducible refine Below.drew ?_) | (with_reducible refine below_drewN ?_ _) | (with_reducible refine Below.setCell ?_ ?_ _) | (with_reducible refine below_after ?_ ?_ _) | (with_reducible refine below_set ?_) | (with_reducible refine After.size_le _ ?_) | (with_reducible refine size_alloc_le ?_) | (with_reducible refine size_set_le ?_) | (with_reducible refine size_drewN_le ?_) | go_size))⟩
    · obtain rfl : k = m := by omega
      obtain ⟨t, ht⟩ : ∃ t, ls[k]? = some t := ⟨_, List.getElem?_eq_getElem (by have := HM.out; omega)⟩
      have hc := HC.out k t ht
      have HT := Lib.hid ht
      obtain ⟨av, capv, rfl⟩ : ∃ av capv, u6 = .slice av k capv := owns_shape hown
      have HO := Lib.hid hown
      clear ht hown
      by_cases h0 : t = []
      · subst h0
        by_cases hk0 : k = 0
        · subst hk0
          go_wp2
          go_returns
          exact ⟨⟨0, .inr ⟨0, ⟨⟨f, HP.out⟩, .inr ⟨HM.out, .inl rfl⟩⟩, rfl⟩⟩, by (repeat' (first | (with_reducible exact Below.refl _ _) | (with_reducible assumption) | (with_reducible refine Below.alloc ?_ ?_ _) | (with_reducible refine Below.drew ?_) | (with_reducible refine below_drewN ?_ _) | (with_reducible refine Below.setCell ?_ ?_ _) | (with_reducible refine below_after ?_ ?_ _) | (with_reducible refine below_set ?_) | (with_reducible refine After.size_le _ ?_) | (with_reducible refine size_alloc_le ?_) | (with_reducible refine size_set_le ?_) | (with_reducible refine size_drewN_le ?_) | go_size))⟩
        · have hk1 : ((k : Int) == 0) = false := by rw [beq_eq_false_iff_ne]; omega
          go_wp2
          go_returns
          exact ⟨⟨_, .inl ⟨k, f, _, ⟨HP.out, HM.out, by omega, HT.out⟩, rfl, HO.out⟩⟩, by (repeat' (first | (with_reducible exact Below.refl _ _) | (with_reducible assumption) | (with_reducible refine Below.alloc ?_ ?_ _) | (with_reducible refine Below.drew ?_) | (with_reducible refine below_drewN ?_ _) | (with_reducible refine Below.setCell ?_ ?_ _) | (with_reducible refine below_after ?_ ?_ _) | (with_reducible refine below_set ?_) | (with_reducible refine After.size_le _ ?_) | (with_reducible refine size_alloc_le ?_) | (with_reducible refine size_set_le ?_) | (with_reducible refine size_drewN_le ?_) | go_size))⟩
      · have h0' : (t == []) = false := beq_eq_false_iff_ne.2 h0
        have HS := Lib.hid (show StopsC ls k from ⟨⟨f, HP.out⟩, .inr ⟨HM.out, .inr (by rw [HT.out]; intro e; exact h0 (Option.some.inj e))⟩⟩)
        go_wp2
        go_returns
        exact ⟨⟨0, .inr ⟨k, HS.out, rfl⟩⟩, by (repeat' (first | (with_reducible exact Below.refl _ _) | (with_reducible assumption) | (with_reducible refine Below.alloc ?_ ?_ _) | (with_reducible refine Below.drew ?_) | (with_reducible refine below_drewN ?_ _) | (with_reducible refine Below.setCell ?_ ?_ _) | (with_reducible refine below_after ?_ ?_ _) | (with_reducible refine below_set ?_) | (with_reducible refine After.size_le _ ?_) | (with_reducible refine size_alloc_le ?_) | (with_reducible refine size_set_le ?_) | (with_reducible refine size_drewN_le ?_) | go_size))⟩
end Go.Proofs.YtcaelmaoldmgpaaDoor
