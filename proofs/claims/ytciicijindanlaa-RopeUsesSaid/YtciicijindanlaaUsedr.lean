/- The reference's Used. -/
import Derived.Test.YtciicijindanlaaUsed
namespace Go.Proofs.Ytciicijindanlaa
open Go.RowKit
attribute [local go_sem] After.cell After.frozen After.lt After.le After.ne After.ne' After.set_eq After.size_set After.lt_add

set_option maxRecDepth 100000 in
set_option maxHeartbeats 2000000 in
theorem rused_any (s d l day n : Int) (v : Value) (ps : List (Int × Int)) (w : World) (h : Prc w w.heap.size v ps) (hl : ps.length ≤ 1000) :
    Calls Try.prog 56 #[.agg #[.int .i64 s, .int .i64 d, .int .i64 l], v, .int .i64 day, .int .i64 n] w (UsedAns w s d l ps day n) := by
  obtain ⟨a, cap, hv⟩ := prc_slice h
  have HC : Hid (∀ W, Below w.heap.size w W → _) := fun W hW => ropeError_any s d l v ps day n W (prc_on h hW) hl
  rcases uE_cases s d l ps day n with ⟨h1, h2⟩ | ⟨e, hG, hD, hn, hcase⟩
  · refine used_fail (by omega) ?_
    rw [h2]
    rcases erN_cases s d l ps day n with ⟨e, _⟩ | e | e
    · exact absurd e h1
    all_goals
      rw [e] at HC ⊢
      clear h h1 h2 e
      subst hv
      generalize ps.length = m at *
      go_enter Try.func56, Try.ntmps56
      go_wp2_with fail
      refine calls_after (HC.out _ (by (repeat' (first | (with_reducible exact Below.refl _ _) | (with_reducible assumption) | (with_reducible refine Below.alloc ?_ ?_ _) | (with_reducible refine Below.drew ?_) | (with_reducible refine below_drewN ?_ _) | (with_reducible refine Below.setCell ?_ ?_ _) | (with_reducible refine below_after ?_ ?_ _) | (with_reducible refine below_set ?_) | (with_reducible refine After.size_le _ ?_) | (with_reducible refine size_alloc_le ?_) | (with_reducible refine size_set_le ?_) | (with_reducible refine size_drewN_le ?_) | go_size)))) ?_
      intro x1
      clear HC
      go_wp2
      go_returns
      exact ⟨rfl, by (repeat' (first | (with_reducible exact Below.refl _ _) | (with_reducible assumption) | (with_reducible refine Below.alloc ?_ ?_ _) | (with_reducible refine Below.drew ?_) | (with_reducible refine below_drewN ?_ _) | (with_reducible refine Below.setCell ?_ ?_ _) | (with_reducible refine below_after ?_ ?_ _) | (with_reducible refine below_set ?_) | (with_reducible refine After.size_le _ ?_) | (with_reducible refine size_alloc_le ?_) | (with_reducible refine size_set_le ?_) | (with_reducible refine size_drewN_le ?_) | go_size))⟩
  rw [e] at HC
  clear e
  have HP := Lib.hid h
  have HM : Hid (∀ W, Below w.heap.size w W → _) := fun W hW => rmay_any s d l day n v ps W (prc_on h hW) hG hD hn
  rcases Nat.eq_zero_or_pos ps.length with h0 | h0
  · obtain rfl : ps = [] := List.length_eq_zero_iff.1 h0
    rcases hcase with ⟨c1, e2⟩ | ⟨c1, c2, e2⟩ | ⟨c1, c2, c3, e2⟩ | ⟨c1, c2, c3, e2⟩
    · exact absurd c1 (by unfold lastN; simp; exact hD.1)
    · simp at c2
    · refine used_fail (by omega) ?_
      rw [e2]
      rw [c3] at HM
      clear h hG e2 c3
      subst hv
      go_enter Try.func56, Try.ntmps56
      go_wp2_with fail
      refine calls_after (HC.out _ (by (repeat' (first | (with_reducible exact Below.refl _ _) | (with_reducible assumption) | (with_reducible refine Below.alloc ?_ ?_ _) | (with_reducible refine Below.drew ?_) | (with_reducible refine below_drewN ?_ _) | (with_reducible refine Below.setCell ?_ ?_ _) | (with_reducible refine below_after ?_ ?_ _) | (with_reducible refine below_set ?_) | (with_reducible refine After.size_le _ ?_) | (with_reducible refine size_alloc_le ?_) | (with_reducible refine size_set_le ?_) | (with_reducible refine size_drewN_le ?_) | go_size)))) ?_
      intro x1
      clear HC
      have hz_x1 := x1.out.size; (try simp only [World.size_alloc] at hz_x1); (try simp only [World.size_setCell] at hz_x1); (try simp only [World.size_alloc] at hz_x1); have k0_x1 : w.heap.size < x1.w.heap.size := (by omega); have j0_x1 : w.heap.size < x1.w.heap.size + 1 := (by omega)
      go_wp2_with fail
      refine calls_after2 (HM.out _ (by (repeat' (first | (with_reducible exact Below.refl _ _) | (with_reducible assumption) | (with_reducible refine Below.alloc ?_ ?_ _) | (with_reducible refine Below.drew ?_) | (with_reducible refine below_drewN ?_ _) | (with_reducible refine Below.setCell ?_ ?_ _) | (with_reducible refine below_after ?_ ?_ _) | (with_reducible refine below_set ?_) | (with_reducible refine After.size_le _ ?_) | (with_reducible refine size_alloc_le ?_) | (with_reducible refine size_set_le ?_) | (with_reducible refine size_drewN_le ?_) | go_size)))) ?_
      intro x2
      clear HM
      go_wp2
      go_returns
      exact ⟨rfl, by (repeat' (first | (with_reducible exact Below.refl _ _) | (with_reducible assumption) | (with_reducible refine Below.alloc ?_ ?_ _) | (with_reducible refine Below.drew ?_) | (with_reducible refine below_drewN ?_ _) | (with_reducible refine Below.setCell ?_ ?_ _) | (with_reducible refine below_after ?_ ?_ _) | (with_reducible refine below_set ?_) | (with_reducible refine After.size_le _ ?_) | (with_reducible refine size_alloc_le ?_) | (with_reducible refine size_set_le ?_) | (with_reducible refine size_drewN_le ?_) | go_size))⟩
    · have hU : uL s d l [] day n = [] ++ [(day, n)] := by unfold uL; rw [if_pos e2]
      unfold UsedAns
      rw [e2, hU]
      rw [c3] at HM
      clear h hG e2 c3 hU c1 c2
      obtain ⟨ps, hps⟩ : ∃ ps : List (Int × Int), ps = [] := ⟨_, rfl⟩
      have e3 : ([] : List (Int × Int)) ++ [(day, n)] = ps ++ [(day, n)] := by rw [hps]
      rw [e3]
      rw [← hps] at HP
      clear e3
      have hlen : ps.length = 0 := by rw [hps]; rfl
      subst hv
      clear hps
      go_enter Try.func56, Try.ntmps56
      go_wp2_with fail
      refine calls_after (HC.out _ (by (repeat' (first | (with_reducible exact Below.refl _ _) | (with_reducible assumption) | (with_reducible refine Below.alloc ?_ ?_ _) | (with_reducible refine Below.drew ?_) | (with_reducible refine below_drewN ?_ _) | (with_reducible refine Below.setCell ?_ ?_ _) | (with_reducible refine below_after ?_ ?_ _) | (with_reducible refine below_set ?_) | (with_reducible refine After.size_le _ ?_) | (with_reducible refine size_alloc_le ?_) | (with_reducible refine size_set_le ?_) | (with_reducible refine size_drewN_le ?_) | go_size)))) ?_
      intro x1
      clear HC
      have hz_x1 := x1.out.size; (try simp only [World.size_alloc] at hz_x1); (try simp only [World.size_setCell] at hz_x1); (try simp only [World.size_alloc] at hz_x1); have k0_x1 : w.heap.size < x1.w.heap.size := (by omega); have j0_x1 : w.heap.size < x1.w.heap.size + 1 := (by omega)
      go_wp2_with fail
      refine calls_after2 (HM.out _ (by (repeat' (first | (with_reducible exact Below.refl _ _) | (with_reducible assumption) | (with_reducible refine Below.alloc ?_ ?_ _) | (with_reducible refine Below.drew ?_) | (with_reducible refine below_drewN ?_ _) | (with_reducible refine Below.setCell ?_ ?_ _) | (with_reducible refine below_after ?_ ?_ _) | (with_reducible refine below_set ?_) | (with_reducible refine After.size_le _ ?_) | (with_reducible refine size_alloc_le ?_) | (with_reducible refine size_set_le ?_) | (with_reducible refine size_drewN_le ?_) | go_size)))) ?_
      intro x2
      clear HM
      have HB3 : Hid (Below w.heap.size w x2.w) := Lib.hid (by (repeat' (first | (with_reducible exact Below.refl _ _) | (with_reducible assumption) | (with_reducible refine Below.alloc ?_ ?_ _) | (with_reducible refine Below.drew ?_) | (with_reducible refine below_drewN ?_ _) | (with_reducible refine Below.setCell ?_ ?_ _) | (with_reducible refine below_after ?_ ?_ _) | (with_reducible refine below_set ?_) | (with_reducible refine After.size_le _ ?_) | (with_reducible refine size_alloc_le ?_) | (with_reducible refine size_set_le ?_) | (with_reducible refine size_drewN_le ?_) | go_size)))
      have HPx : Hid (Prc (x2.w.alloc (.cells #[] 73)) (x2.w.alloc (.cells #[] 73)).heap.size _ ps) := prc_on HP.out (HB3.out.alloc HB3.out.size _)
      obtain ⟨i0, hi, hz0, hz1, hz2⟩ := info_parts useInfo
      go_wp2_with (first
        | (at_builtin; refine append_prc rfl _ _ 57 rfl x2.w.heap.size 73 i0 (.agg #[.int .i64 0, .int .i64 0]) Try.underlying57 hi hz0 hz1 hz2 rfl _ rfl (World.ownsRow_lit x2.w #[] 0 (Nat.le_refl _) (by unfold maxLen; omega) rfl) _ rfl ps HPx.out (by omega) (by simp) ?_; intro v1 w1 hown1 hgrow1; have HB1 := Lib.hid (((Below.refl x2.w.heap.size x2.w).alloc (Nat.le_refl _) (.cells #[] 73)).grown hgrow1 (by simp) (fun j e => by cases e; exact Nat.le_refl _)); have HO1 := Lib.hid hown1; clear hown1 hgrow1)
        | (at_builtin; refine wpList_append_own _ rfl _ _ 57 rfl x2.w.heap.size 73 i0 (.agg #[.int .i64 0, .int .i64 0]) 2 16 Try.underlying57 hi hz0 hz1 hz2 rfl (by decide) _ ps.length (pcv ps) rfl (HO1.out.alloc _) ⟨w1.heap.size, 0, none⟩ 1 1 [.int .i64 day, .int .i64 n] rfl rfl (World.news_of_block (cs := #[.int .i64 day, .int .i64 n]) (t := 73) (fr := (0, 0)) (heap_alloc_new w1 _)) (by simp [Value.oneCell']) (by unfold maxLen; omega) (by omega) (by simp; have := HB1.out.size; omega) ?_; intro v2 w2 hown2 hgrow2 _; have hR : w2.ownsRow x2.w.heap.size 73 2 v2 (ps ++ [(day, n)]).length (pcv (ps ++ [(day, n)])) := (by rw [pcv_snoc]; simpa using hown2); obtain ⟨y, rfl⟩ : ∃ y : After x2.w, w2 = y.w := ⟨⟨w2, (HB1.out.alloc HB1.out.size _).grown hgrow2 (by simp; have := HB1.out.size; omega) (fun j e => (HO1.out.lt j e).1)⟩, rfl⟩; have HR2 := Lib.hid hR; clear hown2 hgrow2 HB1 HO1 hR))
      go_returns
      exact ⟨_, rfl, HR2.out.mono HB3.out.size, HB3.out.trans (y.out.mono HB3.out.size)⟩
  · obtain ⟨b, off, rfl, hb, c⟩ : ∃ b off, a = some ⟨b, off, none⟩ ∧ b < w.heap.size ∧ w.cell? ⟨b, off + (ps.length - 1) * 2, none⟩ = some (.int .i64 (lastN ps ps.length)) := by
      rcases h with ⟨_, rfl⟩ | ⟨_, _, _, _, rfl⟩ | ⟨b, off, c', e, _, _, _, hb, hc⟩
      · simp at h0
      · simp at h0
      · rw [hv] at e
        cases e
        refine ⟨b, off, rfl, hb, ?_⟩
        have := (hc (ps.length - 1) (by omega)).1
        unfold lastN
        rw [if_neg (by omega)]
        exact this
    have d0 : decide ((0 : Int) < (ps.length : Int)) = true := decide_eq_true (by omega)
    have hk1 : (1 : Int) ≤ (ps.length : Int) := by omega
    rcases hcase with ⟨c1, e2⟩ | ⟨c1, c2, e2⟩ | ⟨c1, c2, c3, e2⟩ | ⟨c1, c2, c3, e2⟩
    · refine used_fail (by omega) ?_
      rw [e2]
      clear h hG e2 HM HP
      subst hv
      generalize lastN ps ps.length = q at *
      generalize ps.length = m at *
      have d1 : decide (day < q) = true := decide_eq_true c1
      go_enter Try.func56, Try.ntmps56
      go_wp2_with fail
      refine calls_after (HC.out _ (by (repeat' (first | (with_reducible exact Below.refl _ _) | (with_reducible assumption) | (with_reducible refine Below.alloc ?_ ?_ _) | (with_reducible refine Below.drew ?_) | (with_reducible refine below_drewN ?_ _) | (with_reducible refine Below.setCell ?_ ?_ _) | (with_reducible refine below_after ?_ ?_ _) | (with_reducible refine below_set ?_) | (with_reducible refine After.size_le _ ?_) | (with_reducible refine size_alloc_le ?_) | (with_reducible refine size_set_le ?_) | (with_reducible refine size_drewN_le ?_) | go_size)))) ?_
      intro x1
      clear HC
      have hz_x1 := x1.out.size; (try simp only [World.size_alloc] at hz_x1); (try simp only [World.size_setCell] at hz_x1); (try simp only [World.size_alloc] at hz_x1); have k0_x1 : w.heap.size < x1.w.heap.size := (by omega); have j0_x1 : w.heap.size < x1.w.heap.size + 1 := (by omega); have k1_x1 : b < x1.w.heap.size := (by omega); have j1_x1 : b < x1.w.heap.size + 1 := (by omega)
      go_wp2
      go_returns
      exact ⟨rfl, by (repeat' (first | (with_reducible exact Below.refl _ _) | (with_reducible assumption) | (with_reducible refine Below.alloc ?_ ?_ _) | (with_reducible refine Below.drew ?_) | (with_reducible refine below_drewN ?_ _) | (with_reducible refine Below.setCell ?_ ?_ _) | (with_reducible refine below_after ?_ ?_ _) | (with_reducible refine below_set ?_) | (with_reducible refine After.size_le _ ?_) | (with_reducible refine size_alloc_le ?_) | (with_reducible refine size_set_le ?_) | (with_reducible refine size_drewN_le ?_) | go_size))⟩
    · refine used_fail (by omega) ?_
      rw [e2]
      clear h hG e2 HM HP
      subst hv
      generalize lastN ps ps.length = q at *
      generalize ps.length = m at *
      have d1 : decide (day < q) = false := decide_eq_false c1
      have d2 : ((m : Int) == 500) = true := by simp; omega
      clear c2
      go_enter Try.func56, Try.ntmps56
      go_wp2_with fail
      refine calls_after (HC.out _ (by (repeat' (first | (with_reducible exact Below.refl _ _) | (with_reducible assumption) | (with_reducible refine Below.alloc ?_ ?_ _) | (with_reducible refine Below.drew ?_) | (with_reducible refine below_drewN ?_ _) | (with_reducible refine Below.setCell ?_ ?_ _) | (with_reducible refine below_after ?_ ?_ _) | (with_reducible refine below_set ?_) | (with_reducible refine After.size_le _ ?_) | (with_reducible refine size_alloc_le ?_) | (with_reducible refine size_set_le ?_) | (with_reducible refine size_drewN_le ?_) | go_size)))) ?_
      intro x1
      clear HC
      have hz_x1 := x1.out.size; (try simp only [World.size_alloc] at hz_x1); (try simp only [World.size_setCell] at hz_x1); (try simp only [World.size_alloc] at hz_x1); have k0_x1 : w.heap.size < x1.w.heap.size := (by omega); have j0_x1 : w.heap.size < x1.w.heap.size + 1 := (by omega); have k1_x1 : b < x1.w.heap.size := (by omega); have j1_x1 : b < x1.w.heap.size + 1 := (by omega)
      go_wp2
      go_returns
      exact ⟨rfl, by (repeat' (first | (with_reducible exact Below.refl _ _) | (with_reducible assumption) | (with_reducible refine Below.alloc ?_ ?_ _) | (with_reducible refine Below.drew ?_) | (with_reducible refine below_drewN ?_ _) | (with_reducible refine Below.setCell ?_ ?_ _) | (with_reducible refine below_after ?_ ?_ _) | (with_reducible refine below_set ?_) | (with_reducible refine After.size_le _ ?_) | (with_reducible refine size_alloc_le ?_) | (with_reducible refine size_set_le ?_) | (with_reducible refine size_drewN_le ?_) | go_size))⟩
    · refine used_fail (by omega) ?_
      rw [e2]
      rw [c3] at HM
      clear h hG e2 c3 HP
      subst hv
      generalize lastN ps ps.length = q at *
      generalize ps.length = m at *
      have d1 : decide (day < q) = false := decide_eq_false c1
      have d2 : ((m : Int) == 500) = false := by simp; omega
      clear c2
      go_enter Try.func56, Try.ntmps56
      go_wp2_with fail
      refine calls_after (HC.out _ (by (repeat' (first | (with_reducible exact Below.refl _ _) | (with_reducible assumption) | (with_reducible refine Below.alloc ?_ ?_ _) | (with_reducible refine Below.drew ?_) | (with_reducible refine below_drewN ?_ _) | (with_reducible refine Below.setCell ?_ ?_ _) | (with_reducible refine below_after ?_ ?_ _) | (with_reducible refine below_set ?_) | (with_reducible refine After.size_le _ ?_) | (with_reducible refine size_alloc_le ?_) | (with_reducible refine size_set_le ?_) | (with_reducible refine size_drewN_le ?_) | go_size)))) ?_
      intro x1
      clear HC
      have hz_x1 := x1.out.size; (try simp only [World.size_alloc] at hz_x1); (try simp only [World.size_setCell] at hz_x1); (try simp only [World.size_alloc] at hz_x1); have k0_x1 : w.heap.size < x1.w.heap.size := (by omega); have j0_x1 : w.heap.size < x1.w.heap.size + 1 := (by omega); have k1_x1 : b < x1.w.heap.size := (by omega); have j1_x1 : b < x1.w.heap.size + 1 := (by omega)
      go_wp2_with fail
      refine calls_after2 (HM.out _ (by (repeat' (first | (with_reducible exact Below.refl _ _) | (with_reducible assumption) | (with_reducible refine Below.alloc ?_ ?_ _) | (with_reducible refine Below.drew ?_) | (with_reducible refine below_drewN ?_ _) | (with_reducible refine Below.setCell ?_ ?_ _) | (with_reducible refine below_after ?_ ?_ _) | (with_reducible refine below_set ?_) | (with_reducible refine After.size_le _ ?_) | (with_reducible refine size_alloc_le ?_) | (with_reducible refine size_set_le ?_) | (with_reducible refine size_drewN_le ?_) | go_size)))) ?_
      intro x2
      clear HM
      go_wp2
      go_returns
      exact ⟨rfl, by (repeat' (first | (with_reducible exact Below.refl _ _) | (with_reducible assumption) | (with_reducible refine Below.alloc ?_ ?_ _) | (with_reducible refine Below.drew ?_) | (with_reducible refine below_drewN ?_ _) | (with_reducible refine Below.setCell ?_ ?_ _) | (with_reducible refine below_after ?_ ?_ _) | (with_reducible refine below_set ?_) | (with_reducible refine After.size_le _ ?_) | (with_reducible refine size_alloc_le ?_) | (with_reducible refine size_set_le ?_) | (with_reducible refine size_drewN_le ?_) | go_size))⟩
    · have hU : uL s d l ps day n = ps ++ [(day, n)] := by unfold uL; rw [if_pos e2]
      unfold UsedAns
      rw [e2, hU]
      rw [c3] at HM
      clear h hG e2 c3 hU
      subst hv
      generalize lastN ps ps.length = q at *
      have d1 : decide (day < q) = false := decide_eq_false c1
      have d2 : ((ps.length : Int) == 500) = false := by simp; omega
      clear c2
      go_enter Try.func56, Try.ntmps56
      go_wp2_with fail
      refine calls_after (HC.out _ (by (repeat' (first | (with_reducible exact Below.refl _ _) | (with_reducible assumption) | (with_reducible refine Below.alloc ?_ ?_ _) | (with_reducible refine Below.drew ?_) | (with_reducible refine below_drewN ?_ _) | (with_reducible refine Below.setCell ?_ ?_ _) | (with_reducible refine below_after ?_ ?_ _) | (with_reducible refine below_set ?_) | (with_reducible refine After.size_le _ ?_) | (with_reducible refine size_alloc_le ?_) | (with_reducible refine size_set_le ?_) | (with_reducible refine size_drewN_le ?_) | go_size)))) ?_
      intro x1
      clear HC
      have hz_x1 := x1.out.size; (try simp only [World.size_alloc] at hz_x1); (try simp only [World.size_setCell] at hz_x1); (try simp only [World.size_alloc] at hz_x1); have k0_x1 : w.heap.size < x1.w.heap.size := (by omega); have j0_x1 : w.heap.size < x1.w.heap.size + 1 := (by omega); have k1_x1 : b < x1.w.heap.size := (by omega); have j1_x1 : b < x1.w.heap.size + 1 := (by omega)
      go_wp2_with fail
      refine calls_after2 (HM.out _ (by (repeat' (first | (with_reducible exact Below.refl _ _) | (with_reducible assumption) | (with_reducible refine Below.alloc ?_ ?_ _) | (with_reducible refine Below.drew ?_) | (with_reducible refine below_drewN ?_ _) | (with_reducible refine Below.setCell ?_ ?_ _) | (with_reducible refine below_after ?_ ?_ _) | (with_reducible refine below_set ?_) | (with_reducible refine After.size_le _ ?_) | (with_reducible refine size_alloc_le ?_) | (with_reducible refine size_set_le ?_) | (with_reducible refine size_drewN_le ?_) | go_size)))) ?_
      intro x2
      clear HM
      have HB3 : Hid (Below w.heap.size w x2.w) := Lib.hid (by (repeat' (first | (with_reducible exact Below.refl _ _) | (with_reducible assumption) | (with_reducible refine Below.alloc ?_ ?_ _) | (with_reducible refine Below.drew ?_) | (with_reducible refine below_drewN ?_ _) | (with_reducible refine Below.setCell ?_ ?_ _) | (with_reducible refine below_after ?_ ?_ _) | (with_reducible refine below_set ?_) | (with_reducible refine After.size_le _ ?_) | (with_reducible refine size_alloc_le ?_) | (with_reducible refine size_set_le ?_) | (with_reducible refine size_drewN_le ?_) | go_size)))
      have HPx : Hid (Prc (x2.w.alloc (.cells #[] 73)) (x2.w.alloc (.cells #[] 73)).heap.size _ ps) := prc_on HP.out (HB3.out.alloc HB3.out.size _)
      obtain ⟨i0, hi, hz0, hz1, hz2⟩ := info_parts useInfo
      go_wp2_with (first
        | (at_builtin; refine append_prc rfl _ _ 57 rfl x2.w.heap.size 73 i0 (.agg #[.int .i64 0, .int .i64 0]) Try.underlying57 hi hz0 hz1 hz2 rfl _ rfl (World.ownsRow_lit x2.w #[] 0 (Nat.le_refl _) (by unfold maxLen; omega) rfl) _ rfl ps HPx.out (by omega) (by simp) ?_; intro v1 w1 hown1 hgrow1; have HB1 := Lib.hid (((Below.refl x2.w.heap.size x2.w).alloc (Nat.le_refl _) (.cells #[] 73)).grown hgrow1 (by simp) (fun j e => by cases e; exact Nat.le_refl _)); have HO1 := Lib.hid hown1; clear hown1 hgrow1)
        | (at_builtin; refine wpList_append_own _ rfl _ _ 57 rfl x2.w.heap.size 73 i0 (.agg #[.int .i64 0, .int .i64 0]) 2 16 Try.underlying57 hi hz0 hz1 hz2 rfl (by decide) _ ps.length (pcv ps) rfl (HO1.out.alloc _) ⟨w1.heap.size, 0, none⟩ 1 1 [.int .i64 day, .int .i64 n] rfl rfl (World.news_of_block (cs := #[.int .i64 day, .int .i64 n]) (t := 73) (fr := (0, 0)) (heap_alloc_new w1 _)) (by simp [Value.oneCell']) (by unfold maxLen; omega) (by omega) (by simp; have := HB1.out.size; omega) ?_; intro v2 w2 hown2 hgrow2 _; have hR : w2.ownsRow x2.w.heap.size 73 2 v2 (ps ++ [(day, n)]).length (pcv (ps ++ [(day, n)])) := (by rw [pcv_snoc]; simpa using hown2); obtain ⟨y, rfl⟩ : ∃ y : After x2.w, w2 = y.w := ⟨⟨w2, (HB1.out.alloc HB1.out.size _).grown hgrow2 (by simp; have := HB1.out.size; omega) (fun j e => (HO1.out.lt j e).1)⟩, rfl⟩; have HR2 := Lib.hid hR; clear hown2 hgrow2 HB1 HO1 hR))
      go_returns
      exact ⟨_, rfl, HR2.out.mono HB3.out.size, HB3.out.trans (y.out.mono HB3.out.size)⟩
end Go.Proofs.Ytciicijindanlaa
