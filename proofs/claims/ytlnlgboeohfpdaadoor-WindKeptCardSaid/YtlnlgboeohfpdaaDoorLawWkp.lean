/- WindKept: the law's walk. -/
import Derived.Test.YtlnlgboeohfpdaaDoorLawWli
import Derived.Test.YtlnlgboeohfpdaaDoorWvs
namespace Go.Proofs.YtlnlgboeohfpdaaDoor
open Go.RowKit
attribute [local go_sem] After.cell After.frozen After.lt After.le After.ne After.ne' After.set_eq After.size_set After.lt_add

/-- The minutes of a row, by their number. -/
def mgF (L : List Nat) (i : Nat) : Int := (L.getD i 0 : Nat)
theorem mrow_in {W : World} {B : Nat} {v : Value} {L : List Nat} (hr : W.ownsRow B 3 1 v L.length (mxs L)) : ∃ a cap, v = .slice a L.length cap ∧ IAt W a L.length (mgF L) := by
  obtain ⟨a, cap, rfl⟩ := ownsR_shape hr
  refine ⟨a, cap, rfl, fun i hi => ?_⟩
  obtain ⟨g, c, e⟩ := Go.Joins.ownsRow_form hr (by omega)
  cases e
  refine ⟨g, 0, rfl, (hr.lt g rfl).2, ?_⟩
  rw [Nat.zero_add, hr.cellAt _ (by omega)]
  simp [mxs, mgF, hi]
theorem fl_nil {p : Nat → Bool} : ∀ {n : Nat}, (fl p n).length = 0 → ∀ i, i < n → p i = false
  | 0, _, i, hi => absurd hi (by omega)
  | n + 1, h, i, hi => by
    rw [fl_succ] at h
    cases hp : p n
    · rw [hp, if_neg (by simp)] at h
      rcases Nat.lt_or_ge i n with h1 | h1
      · exact fl_nil h i h1
      · obtain rfl : i = n := by omega
        exact hp
    · rw [hp, if_pos rfl] at h
      simp at h
/-- In kept gusts no gust of a sure window is the mark or more. -/
theorem kept_below {n : Nat} {fr to lo hi : Nat → Int} {m : Nat} {f : Nat → Int} {mark k v : Int} (hE : kpE n fr to lo hi m f = 0) (hL : (kpL n fr to lo hi m f).length = 0) (hW : WnS n fr to lo hi mark true k 0 m 0 v) :
    0 ≤ v ∧ v + k ≤ m ∧ 1 ≤ k ∧ k ≤ 10000 ∧ ∀ i : Nat, v ≤ i → (i : Int) < v + k → f i < mark := by
  unfold kpE at hE
  unfold kpL at hL
  cases hg : decide (GoodCs n fr to lo hi) && decide (GoodG m f)
  · rw [hg] at hE; simp at hE
  rw [hg, if_pos rfl] at hL
  simp only [Bool.and_eq_true, decide_eq_true_eq] at hg
  obtain ⟨hc, hgg⟩ := hg
  unfold WnS at hW
  rw [decide_eq_true hc, if_pos rfl] at hW
  cases hr : decide (RngOk mark k 0 m)
  · rw [hr, if_neg (by simp)] at hW
    exact absurd hW.1 (by omega)
  rw [hr, if_pos rfl] at hW
  obtain ⟨h1, h2, h3⟩ := of_decide_eq_true hr
  unfold Btw at h1 h2
  rcases hW with ⟨_, a1, a2, a3, _⟩ | ⟨h8, _⟩
  · refine ⟨a1, a2, h2.1, h2.2, fun i p q => ?_⟩
    obtain ⟨j, hj, h4, h5⟩ := fnB_iff.1 (a3 i p q)
    have hb := fl_nil hL i (by omega)
    rw [brk_in hc.1 hj h4] at hb
    by_cases h6 : 0 ≤ f i
    · rw [decide_eq_true h6] at hb
      simp at hb
      omega
    · omega
  · exact absurd h8 (by omega)
set_option maxRecDepth 100000 in
set_option maxHeartbeats 4000000 in
theorem windKept_any (a : Option Addr) (n cap : Nat) (fr to lo hi : Nat → Int) (a' : Option Addr) (m cap' : Nat) (f : Nat → Int) (mark k : Int) (w : World)
    (hA : CAt w a n fr to lo hi) (hG : IAt w a' m f) (hn : n ≤ 9223372036854775807) (hm : m ≤ 9223372036854775807) (hS : Stw w) :
    Calls Tryd.prog 9 #[.slice a n cap, .slice a' m cap', .int .i64 mark, .int .i64 k] w fun e w' => e = .returned (.bool true) ∧ Below w.heap.size w w' := by
  have HAw := Lib.hid (fun W (hW : Below w.heap.size w W) => awake_any W (hS.on hW))
  have HM1 := Lib.hid (fun W => many_any a' m cap' W)
  have P1 := Lib.hid (fun W (hW : Below w.heap.size w W) => kept_say a n cap fr to lo hi a' m cap' f W (hA.on hW) (hG.on hW) hn)
  have R1 := Lib.hid (fun W (hW : Below w.heap.size w W) => rkept_say a n cap fr to lo hi a' m cap' f W (hA.on hW) (hG.on hW) hn hm)
  have PS := Lib.hid (fun W (hW : Below w.heap.size w W) => sure_say a n cap fr to lo hi mark k 0 m W (hA.on hW) hn)
  have HG := Lib.hid hG
  have hkl : (kpL n fr to lo hi m f).length ≤ 2000 := by
    unfold kpL
    split
    · rename_i h
      simp only [Bool.and_eq_true, decide_eq_true_eq] at h
      exact Nat.le_trans (fl_len _ _) h.2.1
    · simp
  have HKB : Hid (∀ v, kpE n fr to lo hi m f = 0 → (kpL n fr to lo hi m f).length = 0 → WnS n fr to lo hi mark true k 0 m 0 v → 0 ≤ v ∧ v + k ≤ m ∧ 1 ≤ k ∧ k ≤ 10000 ∧ ∀ i : Nat, v ≤ i → (i : Int) < v + k → f i < mark) := Lib.hid fun v h1 h2 h3 => kept_below h1 h2 h3
  have hmI : (m : Int) ≤ 9223372036854775807 := by omega
  clear hA hG hS
  generalize kpE n fr to lo hi m f = e1 at *
  generalize decide (Many m) = m1 at *
  by_cases h30 : (30 : Int) < (n : Int)
  · have d30 : decide ((30 : Int) < (n : Int)) = true := decide_eq_true h30
    by_cases h200 : (n : Int) ≤ 200
    · have d200 : decide ((n : Int) ≤ 200) = true := decide_eq_true h200
      go_enter Tryd.func9, Tryd.ntmps9
      go_wp2_with fail
      refine calls_after (HAw.out _ (by (repeat' (first | (with_reducible exact Below.refl _ _) | (with_reducible assumption) | (with_reducible refine Below.alloc ?_ ?_ _) | (with_reducible refine Below.drew ?_) | (with_reducible refine below_drewN ?_ _) | (with_reducible refine Below.setCell ?_ ?_ _) | (with_reducible refine below_after ?_ ?_ _) | (with_reducible refine below_set ?_) | (with_reducible refine After.size_le _ ?_) | (with_reducible refine size_alloc_le ?_) | (with_reducible refine size_set_le ?_) | (with_reducible refine size_drewN_le ?_) | go_size)))) ?_
      intro x1
      go_wp2_with (go_at_call 11; refine (HM1.out _).mono ?_; rintro e w1 ⟨rfl, rfl⟩)
      go_ret
      exact ⟨rfl, by (repeat' (first | (with_reducible exact Below.refl _ _) | (with_reducible assumption) | (with_reducible refine Below.alloc ?_ ?_ _) | (with_reducible refine Below.drew ?_) | (with_reducible refine below_drewN ?_ _) | (with_reducible refine Below.setCell ?_ ?_ _) | (with_reducible refine below_after ?_ ?_ _) | (with_reducible refine below_set ?_) | (with_reducible refine After.size_le _ ?_) | (with_reducible refine size_alloc_le ?_) | (with_reducible refine size_set_le ?_) | (with_reducible refine size_drewN_le ?_) | go_size))⟩
    have d200 : decide ((n : Int) ≤ 200) = false := decide_eq_false h200
    by_cases h220 : (220 : Int) < (n : Int)
    · have d220 : decide ((220 : Int) < (n : Int)) = true := decide_eq_true h220
      go_enter Tryd.func9, Tryd.ntmps9
      go_wp2_with fail
      refine calls_after (HAw.out _ (by (repeat' (first | (with_reducible exact Below.refl _ _) | (with_reducible assumption) | (with_reducible refine Below.alloc ?_ ?_ _) | (with_reducible refine Below.drew ?_) | (with_reducible refine below_drewN ?_ _) | (with_reducible refine Below.setCell ?_ ?_ _) | (with_reducible refine below_after ?_ ?_ _) | (with_reducible refine below_set ?_) | (with_reducible refine After.size_le _ ?_) | (with_reducible refine size_alloc_le ?_) | (with_reducible refine size_set_le ?_) | (with_reducible refine size_drewN_le ?_) | go_size)))) ?_
      intro x1
      go_wp2_with (go_at_call 11; refine (HM1.out _).mono ?_; rintro e w1 ⟨rfl, rfl⟩)
      go_ret
      exact ⟨rfl, by (repeat' (first | (with_reducible exact Below.refl _ _) | (with_reducible assumption) | (with_reducible refine Below.alloc ?_ ?_ _) | (with_reducible refine Below.drew ?_) | (with_reducible refine below_drewN ?_ _) | (with_reducible refine Below.setCell ?_ ?_ _) | (with_reducible refine below_after ?_ ?_ _) | (with_reducible refine below_set ?_) | (with_reducible refine After.size_le _ ?_) | (with_reducible refine size_alloc_le ?_) | (with_reducible refine size_set_le ?_) | (with_reducible refine size_drewN_le ?_) | go_size))⟩
    have d220 : decide ((220 : Int) < (n : Int)) = false := decide_eq_false h220
    cases m1
    case true =>
      go_enter Tryd.func9, Tryd.ntmps9
      go_wp2_with fail
      refine calls_after (HAw.out _ (by (repeat' (first | (with_reducible exact Below.refl _ _) | (with_reducible assumption) | (with_reducible refine Below.alloc ?_ ?_ _) | (with_reducible refine Below.drew ?_) | (with_reducible refine below_drewN ?_ _) | (with_reducible refine Below.setCell ?_ ?_ _) | (with_reducible refine below_after ?_ ?_ _) | (with_reducible refine below_set ?_) | (with_reducible refine After.size_le _ ?_) | (with_reducible refine size_alloc_le ?_) | (with_reducible refine size_set_le ?_) | (with_reducible refine size_drewN_le ?_) | go_size)))) ?_
      intro x1
      go_wp2_with (go_at_call 11; refine (HM1.out _).mono ?_; rintro e w1 ⟨rfl, rfl⟩)
      go_ret
      exact ⟨rfl, by (repeat' (first | (with_reducible exact Below.refl _ _) | (with_reducible assumption) | (with_reducible refine Below.alloc ?_ ?_ _) | (with_reducible refine Below.drew ?_) | (with_reducible refine below_drewN ?_ _) | (with_reducible refine Below.setCell ?_ ?_ _) | (with_reducible refine below_after ?_ ?_ _) | (with_reducible refine below_set ?_) | (with_reducible refine After.size_le _ ?_) | (with_reducible refine size_alloc_le ?_) | (with_reducible refine size_set_le ?_) | (with_reducible refine size_drewN_le ?_) | go_size))⟩
    by_cases he1 : e1 = 0
    case neg =>
      have b1 : (e1 == 0) = false := beq_eq_false_iff_ne.2 he1
      go_enter Tryd.func9, Tryd.ntmps9
      go_wp2_with fail
      refine calls_after (HAw.out _ (by (repeat' (first | (with_reducible exact Below.refl _ _) | (with_reducible assumption) | (with_reducible refine Below.alloc ?_ ?_ _) | (with_reducible refine Below.drew ?_) | (with_reducible refine below_drewN ?_ _) | (with_reducible refine Below.setCell ?_ ?_ _) | (with_reducible refine below_after ?_ ?_ _) | (with_reducible refine below_set ?_) | (with_reducible refine After.size_le _ ?_) | (with_reducible refine size_alloc_le ?_) | (with_reducible refine size_set_le ?_) | (with_reducible refine size_drewN_le ?_) | go_size)))) ?_
      intro x1
      go_wp2_with (go_at_call 11; refine (HM1.out _).mono ?_; rintro e w1 ⟨rfl, rfl⟩)
      refine (P1.out _ (by (repeat' (first | (with_reducible exact Below.refl _ _) | (with_reducible assumption) | (with_reducible refine Below.alloc ?_ ?_ _) | (with_reducible refine Below.drew ?_) | (with_reducible refine below_drewN ?_ _) | (with_reducible refine Below.setCell ?_ ?_ _) | (with_reducible refine below_after ?_ ?_ _) | (with_reducible refine below_set ?_) | (with_reducible refine After.size_le _ ?_) | (with_reducible refine size_alloc_le ?_) | (with_reducible refine size_set_le ?_) | (with_reducible refine size_drewN_le ?_) | go_size)))).mono ?_
      rintro e w2 ⟨⟨v, rfl, hv⟩, hb2⟩
      obtain ⟨va, vc, rfl, hvi⟩ := mrow_in hv
      have hB2 := Lib.hid (x1.out.trans (hb2.mono x1.out.size))
      have HV2 := Lib.hid hvi
      clear hv hb2 hvi P1
      go_wp2_with fail
      refine (R1.out _ hB2.out).mono ?_
      rintro e w3 ⟨⟨u, rfl, hu⟩, hb3⟩
      obtain ⟨ua, uc, rfl, hui⟩ := mrow_in hu
      have hB3 := Lib.hid (hB2.out.trans (hb3.mono hB2.out.size))
      have HSi := Lib.hid (sameInts_at va ua _ vc uc _ w3 (HV2.out.on hb3) hui (by omega))
      clear hu hb3 hB2 R1 hui HV2
      generalize (kpL n fr to lo hi m f).length = L at *
      go_wp2_with fail
      refine HSi.out.mono ?_
      rintro e w4 ⟨rfl, hb4⟩
      have hB4 := Lib.hid (hB3.out.trans (hb4.mono hB3.out.size))
      clear hb4 hB3 HSi
      obtain ⟨x4, rfl⟩ : ∃ x : After w, w4 = x.w := ⟨⟨w4, hB4.out⟩, rfl⟩
      clear HG PS HKB
      go_wp2
      go_ret
      exact ⟨rfl, hB4.out⟩
    subst he1
    by_cases hL : (kpL n fr to lo hi m f).length = 0
    case neg =>
      have b2 : decide (0 < (kpL n fr to lo hi m f).length) = true := decide_eq_true (by omega)
      have b3 : decide ((0 : Int) < ((kpL n fr to lo hi m f).length : Nat)) = true := decide_eq_true (by omega)
      clear hL
      go_enter Tryd.func9, Tryd.ntmps9
      go_wp2_with fail
      refine calls_after (HAw.out _ (by (repeat' (first | (with_reducible exact Below.refl _ _) | (with_reducible assumption) | (with_reducible refine Below.alloc ?_ ?_ _) | (with_reducible refine Below.drew ?_) | (with_reducible refine below_drewN ?_ _) | (with_reducible refine Below.setCell ?_ ?_ _) | (with_reducible refine below_after ?_ ?_ _) | (with_reducible refine below_set ?_) | (with_reducible refine After.size_le _ ?_) | (with_reducible refine size_alloc_le ?_) | (with_reducible refine size_set_le ?_) | (with_reducible refine size_drewN_le ?_) | go_size)))) ?_
      intro x1
      go_wp2_with (go_at_call 11; refine (HM1.out _).mono ?_; rintro e w1 ⟨rfl, rfl⟩)
      refine (P1.out _ (by (repeat' (first | (with_reducible exact Below.refl _ _) | (with_reducible assumption) | (with_reducible refine Below.alloc ?_ ?_ _) | (with_reducible refine Below.drew ?_) | (with_reducible refine below_drewN ?_ _) | (with_reducible refine Below.setCell ?_ ?_ _) | (with_reducible refine below_after ?_ ?_ _) | (with_reducible refine below_set ?_) | (with_reducible refine After.size_le _ ?_) | (with_reducible refine size_alloc_le ?_) | (with_reducible refine size_set_le ?_) | (with_reducible refine size_drewN_le ?_) | go_size)))).mono ?_
      rintro e w2 ⟨⟨v, rfl, hv⟩, hb2⟩
      obtain ⟨va, vc, rfl, hvi⟩ := mrow_in hv
      have hB2 := Lib.hid (x1.out.trans (hb2.mono x1.out.size))
      have HV2 := Lib.hid hvi
      clear hv hb2 hvi P1
      go_wp2_with fail
      refine (R1.out _ hB2.out).mono ?_
      rintro e w3 ⟨⟨u, rfl, hu⟩, hb3⟩
      obtain ⟨ua, uc, rfl, hui⟩ := mrow_in hu
      have hB3 := Lib.hid (hB2.out.trans (hb3.mono hB2.out.size))
      have HSi := Lib.hid (sameInts_at va ua _ vc uc _ w3 (HV2.out.on hb3) hui (by omega))
      clear hu hb3 hB2 R1 hui HV2
      generalize (kpL n fr to lo hi m f).length = L at *
      go_wp2_with fail
      refine HSi.out.mono ?_
      rintro e w4 ⟨rfl, hb4⟩
      have hB4 := Lib.hid (hB3.out.trans (hb4.mono hB3.out.size))
      clear hb4 hB3 HSi
      obtain ⟨x4, rfl⟩ : ∃ x : After w, w4 = x.w := ⟨⟨w4, hB4.out⟩, rfl⟩
      clear HG PS HKB
      go_wp2
      go_ret
      exact ⟨rfl, hB4.out⟩
    have HKB2 := Lib.hid (fun v => HKB.out v rfl hL)
    clear HKB
    have HL := Lib.hid hL
    clear hL
    by_cases hm3 : (300 : Int) < (m : Int)
    case pos =>
      have b4 : decide ((300 : Int) < (m : Int)) = true := decide_eq_true hm3
      go_enter Tryd.func9, Tryd.ntmps9
      go_wp2_with fail
      refine calls_after (HAw.out _ (by (repeat' (first | (with_reducible exact Below.refl _ _) | (with_reducible assumption) | (with_reducible refine Below.alloc ?_ ?_ _) | (with_reducible refine Below.drew ?_) | (with_reducible refine below_drewN ?_ _) | (with_reducible refine Below.setCell ?_ ?_ _) | (with_reducible refine below_after ?_ ?_ _) | (with_reducible refine below_set ?_) | (with_reducible refine After.size_le _ ?_) | (with_reducible refine size_alloc_le ?_) | (with_reducible refine size_set_le ?_) | (with_reducible refine size_drewN_le ?_) | go_size)))) ?_
      intro x1
      go_wp2_with (go_at_call 11; refine (HM1.out _).mono ?_; rintro e w1 ⟨rfl, rfl⟩)
      refine (P1.out _ (by (repeat' (first | (with_reducible exact Below.refl _ _) | (with_reducible assumption) | (with_reducible refine Below.alloc ?_ ?_ _) | (with_reducible refine Below.drew ?_) | (with_reducible refine below_drewN ?_ _) | (with_reducible refine Below.setCell ?_ ?_ _) | (with_reducible refine below_after ?_ ?_ _) | (with_reducible refine below_set ?_) | (with_reducible refine After.size_le _ ?_) | (with_reducible refine size_alloc_le ?_) | (with_reducible refine size_set_le ?_) | (with_reducible refine size_drewN_le ?_) | go_size)))).mono ?_
      rintro e w2 ⟨⟨v, rfl, hv⟩, hb2⟩
      obtain ⟨va, vc, rfl, hvi⟩ := mrow_in hv
      have hB2 := Lib.hid (x1.out.trans (hb2.mono x1.out.size))
      have HV2 := Lib.hid hvi
      clear hv hb2 hvi P1
      go_wp2_with fail
      refine (R1.out _ hB2.out).mono ?_
      rintro e w3 ⟨⟨u, rfl, hu⟩, hb3⟩
      obtain ⟨ua, uc, rfl, hui⟩ := mrow_in hu
      have hB3 := Lib.hid (hB2.out.trans (hb3.mono hB2.out.size))
      have HSi := Lib.hid (sameInts_at va ua _ vc uc _ w3 (HV2.out.on hb3) hui (by omega))
      clear hu hb3 hB2 R1 hui HV2
      generalize (kpL n fr to lo hi m f).length = L at *
      go_wp2_with fail
      refine HSi.out.mono ?_
      rintro e w4 ⟨rfl, hb4⟩
      have hB4 := Lib.hid (hB3.out.trans (hb4.mono hB3.out.size))
      clear hb4 hB3 HSi
      obtain ⟨x4, rfl⟩ : ∃ x : After w, w4 = x.w := ⟨⟨w4, hB4.out⟩, rfl⟩
      have hL := HL.out
      subst hL
      clear HG PS
      go_wp2
      go_ret
      exact ⟨rfl, hB4.out⟩
    have b4 : decide ((300 : Int) < (m : Int)) = false := decide_eq_false hm3
    go_enter Tryd.func9, Tryd.ntmps9
    go_wp2_with fail
    refine calls_after (HAw.out _ (by (repeat' (first | (with_reducible exact Below.refl _ _) | (with_reducible assumption) | (with_reducible refine Below.alloc ?_ ?_ _) | (with_reducible refine Below.drew ?_) | (with_reducible refine below_drewN ?_ _) | (with_reducible refine Below.setCell ?_ ?_ _) | (with_reducible refine below_after ?_ ?_ _) | (with_reducible refine below_set ?_) | (with_reducible refine After.size_le _ ?_) | (with_reducible refine size_alloc_le ?_) | (with_reducible refine size_set_le ?_) | (with_reducible refine size_drewN_le ?_) | go_size)))) ?_
    intro x1
    go_wp2_with (go_at_call 11; refine (HM1.out _).mono ?_; rintro e w1 ⟨rfl, rfl⟩)
    refine (P1.out _ (by (repeat' (first | (with_reducible exact Below.refl _ _) | (with_reducible assumption) | (with_reducible refine Below.alloc ?_ ?_ _) | (with_reducible refine Below.drew ?_) | (with_reducible refine below_drewN ?_ _) | (with_reducible refine Below.setCell ?_ ?_ _) | (with_reducible refine below_after ?_ ?_ _) | (with_reducible refine below_set ?_) | (with_reducible refine After.size_le _ ?_) | (with_reducible refine size_alloc_le ?_) | (with_reducible refine size_set_le ?_) | (with_reducible refine size_drewN_le ?_) | go_size)))).mono ?_
    rintro e w2 ⟨⟨v, rfl, hv⟩, hb2⟩
    obtain ⟨va, vc, rfl, hvi⟩ := mrow_in hv
    have hB2 := Lib.hid (x1.out.trans (hb2.mono x1.out.size))
    have HV2 := Lib.hid hvi
    clear hv hb2 hvi P1
    go_wp2_with fail
    refine (R1.out _ hB2.out).mono ?_
    rintro e w3 ⟨⟨u, rfl, hu⟩, hb3⟩
    obtain ⟨ua, uc, rfl, hui⟩ := mrow_in hu
    have hB3 := Lib.hid (hB2.out.trans (hb3.mono hB2.out.size))
    have HSi := Lib.hid (sameInts_at va ua _ vc uc _ w3 (HV2.out.on hb3) hui (by omega))
    clear hu hb3 hB2 R1 hui HV2
    generalize (kpL n fr to lo hi m f).length = L at *
    go_wp2_with fail
    refine HSi.out.mono ?_
    rintro e w4 ⟨rfl, hb4⟩
    have hB4 := Lib.hid (hB3.out.trans (hb4.mono hB3.out.size))
    clear hb4 hB3 HSi
    obtain ⟨x4, rfl⟩ : ∃ x : After w, w4 = x.w := ⟨⟨w4, hB4.out⟩, rfl⟩
    have hL := HL.out
    subst hL
    go_wp2_with fail
    refine (PS.out _ x4.out).mono ?_
    rintro e w5 ⟨⟨t, g, rfl, hW⟩, hb5⟩
    obtain ⟨x5, rfl⟩ : ∃ x : After w, w5 = x.w := ⟨⟨w5, x4.out.trans (hb5.mono x4.out.size)⟩, rfl⟩
    clear hb5 PS
    by_cases hg : g = 0
    case neg =>
      have b5 : (g == 0) = false := beq_eq_false_iff_ne.2 hg
      clear HG HKB2 hW hg
      go_wp2
      go_ret
      exact ⟨rfl, by (repeat' (first | (with_reducible exact Below.refl _ _) | (with_reducible assumption) | (with_reducible refine Below.alloc ?_ ?_ _) | (with_reducible refine Below.drew ?_) | (with_reducible refine below_drewN ?_ _) | (with_reducible refine Below.setCell ?_ ?_ _) | (with_reducible refine below_after ?_ ?_ _) | (with_reducible refine below_set ?_) | (with_reducible refine After.size_le _ ?_) | (with_reducible refine size_alloc_le ?_) | (with_reducible refine size_set_le ?_) | (with_reducible refine size_drewN_le ?_) | go_size))⟩
    subst hg
    obtain ⟨h1, h2, h3, h4, h5⟩ := HKB2.out t hW
    obtain ⟨p, rfl⟩ : ∃ p : Nat, t = p := ⟨t.toNat, by omega⟩
    obtain ⟨q, rfl⟩ : ∃ q : Nat, k = q := ⟨k.toNat, by omega⟩
    have H5 := Lib.hid h5
    clear HKB2 hW h5
    go_wp2
    go_loop [15] (fun i => ∃ j : Nat, p ≤ j ∧ j ≤ p + q ∧ i = .int .i64 j) (fun i => p + q - (intOf i).toNat)
    case atStart => exact ⟨p, by omega, by omega, rfl⟩
    case round =>
      obtain ⟨j, hj, hjq, rfl⟩ := hrel
      by_cases hlt : j < p + q
      · have hlti : (j : Int) < (p : Int) + (q : Int) := by omega
        have hjm : j < m := by omega
        have d1 : decide ((m : Int) ≤ (j : Int)) = false := decide_eq_false (by omega)
        have d2 : decide (m ≤ j) = false := decide_eq_false (by omega)
        have d3 : decide (mark ≤ f j) = false := decide_eq_false (by have := H5.out j (by omega) hlti; omega)
        obtain ⟨b, off, rfl, hb, hc⟩ := HG.out j hjm
        generalize f j = fj at *
        go_wp2
        go_round
        case rel => exact ⟨j + 1, by omega, by omega, by go_num⟩
        case measure => simp [intOf]; omega
      · obtain rfl : j = p + q := by omega
        go_wp2
        go_ret
        exact ⟨rfl, by (repeat' (first | (with_reducible exact Below.refl _ _) | (with_reducible assumption) | (with_reducible refine Below.alloc ?_ ?_ _) | (with_reducible refine Below.drew ?_) | (with_reducible refine below_drewN ?_ _) | (with_reducible refine Below.setCell ?_ ?_ _) | (with_reducible refine below_after ?_ ?_ _) | (with_reducible refine below_set ?_) | (with_reducible refine After.size_le _ ?_) | (with_reducible refine size_alloc_le ?_) | (with_reducible refine size_set_le ?_) | (with_reducible refine size_drewN_le ?_) | go_size))⟩
  have d30 : decide ((30 : Int) < (n : Int)) = false := decide_eq_false h30
  have d220 : decide ((220 : Int) < (n : Int)) = false := decide_eq_false (by omega)
  cases m1
  case true =>
    go_enter Tryd.func9, Tryd.ntmps9
    go_wp2_with fail
    refine calls_after (HAw.out _ (by (repeat' (first | (with_reducible exact Below.refl _ _) | (with_reducible assumption) | (with_reducible refine Below.alloc ?_ ?_ _) | (with_reducible refine Below.drew ?_) | (with_reducible refine below_drewN ?_ _) | (with_reducible refine Below.setCell ?_ ?_ _) | (with_reducible refine below_after ?_ ?_ _) | (with_reducible refine below_set ?_) | (with_reducible refine After.size_le _ ?_) | (with_reducible refine size_alloc_le ?_) | (with_reducible refine size_set_le ?_) | (with_reducible refine size_drewN_le ?_) | go_size)))) ?_
    intro x1
    go_wp2_with (go_at_call 11; refine (HM1.out _).mono ?_; rintro e w1 ⟨rfl, rfl⟩)
    go_ret
    exact ⟨rfl, by (repeat' (first | (with_reducible exact Below.refl _ _) | (with_reducible assumption) | (with_reducible refine Below.alloc ?_ ?_ _) | (with_reducible refine Below.drew ?_) | (with_reducible refine below_drewN ?_ _) | (with_reducible refine Below.setCell ?_ ?_ _) | (with_reducible refine below_after ?_ ?_ _) | (with_reducible refine below_set ?_) | (with_reducible refine After.size_le _ ?_) | (with_reducible refine size_alloc_le ?_) | (with_reducible refine size_set_le ?_) | (with_reducible refine size_drewN_le ?_) | go_size))⟩
  by_cases he1 : e1 = 0
  case neg =>
    have b1 : (e1 == 0) = false := beq_eq_false_iff_ne.2 he1
    go_enter Tryd.func9, Tryd.ntmps9
    go_wp2_with fail
    refine calls_after (HAw.out _ (by (repeat' (first | (with_reducible exact Below.refl _ _) | (with_reducible assumption) | (with_reducible refine Below.alloc ?_ ?_ _) | (with_reducible refine Below.drew ?_) | (with_reducible refine below_drewN ?_ _) | (with_reducible refine Below.setCell ?_ ?_ _) | (with_reducible refine below_after ?_ ?_ _) | (with_reducible refine below_set ?_) | (with_reducible refine After.size_le _ ?_) | (with_reducible refine size_alloc_le ?_) | (with_reducible refine size_set_le ?_) | (with_reducible refine size_drewN_le ?_) | go_size)))) ?_
    intro x1
    go_wp2_with (go_at_call 11; refine (HM1.out _).mono ?_; rintro e w1 ⟨rfl, rfl⟩)
    refine (P1.out _ (by (repeat' (first | (with_reducible exact Below.refl _ _) | (with_reducible assumption) | (with_reducible refine Below.alloc ?_ ?_ _) | (with_reducible refine Below.drew ?_) | (with_reducible refine below_drewN ?_ _) | (with_reducible refine Below.setCell ?_ ?_ _) | (with_reducible refine below_after ?_ ?_ _) | (with_reducible refine below_set ?_) | (with_reducible refine After.size_le _ ?_) | (with_reducible refine size_alloc_le ?_) | (with_reducible refine size_set_le ?_) | (with_reducible refine size_drewN_le ?_) | go_size)))).mono ?_
    rintro e w2 ⟨⟨v, rfl, hv⟩, hb2⟩
    obtain ⟨va, vc, rfl, hvi⟩ := mrow_in hv
    have hB2 := Lib.hid (x1.out.trans (hb2.mono x1.out.size))
    have HV2 := Lib.hid hvi
    clear hv hb2 hvi P1
    go_wp2_with fail
    refine (R1.out _ hB2.out).mono ?_
    rintro e w3 ⟨⟨u, rfl, hu⟩, hb3⟩
    obtain ⟨ua, uc, rfl, hui⟩ := mrow_in hu
    have hB3 := Lib.hid (hB2.out.trans (hb3.mono hB2.out.size))
    have HSi := Lib.hid (sameInts_at va ua _ vc uc _ w3 (HV2.out.on hb3) hui (by omega))
    clear hu hb3 hB2 R1 hui HV2
    generalize (kpL n fr to lo hi m f).length = L at *
    go_wp2_with fail
    refine HSi.out.mono ?_
    rintro e w4 ⟨rfl, hb4⟩
    have hB4 := Lib.hid (hB3.out.trans (hb4.mono hB3.out.size))
    clear hb4 hB3 HSi
    obtain ⟨x4, rfl⟩ : ∃ x : After w, w4 = x.w := ⟨⟨w4, hB4.out⟩, rfl⟩
    clear HG PS HKB
    go_wp2
    go_ret
    exact ⟨rfl, hB4.out⟩
  subst he1
  by_cases hL : (kpL n fr to lo hi m f).length = 0
  case neg =>
    have b2 : decide (0 < (kpL n fr to lo hi m f).length) = true := decide_eq_true (by omega)
    have b3 : decide ((0 : Int) < ((kpL n fr to lo hi m f).length : Nat)) = true := decide_eq_true (by omega)
    clear hL
    go_enter Tryd.func9, Tryd.ntmps9
    go_wp2_with fail
    refine calls_after (HAw.out _ (by (repeat' (first | (with_reducible exact Below.refl _ _) | (with_reducible assumption) | (with_reducible refine Below.alloc ?_ ?_ _) | (with_reducible refine Below.drew ?_) | (with_reducible refine below_drewN ?_ _) | (with_reducible refine Below.setCell ?_ ?_ _) | (with_reducible refine below_after ?_ ?_ _) | (with_reducible refine below_set ?_) | (with_reducible refine After.size_le _ ?_) | (with_reducible refine size_alloc_le ?_) | (with_reducible refine size_set_le ?_) | (with_reducible refine size_drewN_le ?_) | go_size)))) ?_
    intro x1
    go_wp2_with (go_at_call 11; refine (HM1.out _).mono ?_; rintro e w1 ⟨rfl, rfl⟩)
    refine (P1.out _ (by (repeat' (first | (with_reducible exact Below.refl _ _) | (with_reducible assumption) | (with_reducible refine Below.alloc ?_ ?_ _) | (with_reducible refine Below.drew ?_) | (with_reducible refine below_drewN ?_ _) | (with_reducible refine Below.setCell ?_ ?_ _) | (with_reducible refine below_after ?_ ?_ _) | (with_reducible refine below_set ?_) | (with_reducible refine After.size_le _ ?_) | (with_reducible refine size_alloc_le ?_) | (with_reducible refine size_set_le ?_) | (with_reducible refine size_drewN_le ?_) | go_size)))).mono ?_
    rintro e w2 ⟨⟨v, rfl, hv⟩, hb2⟩
    obtain ⟨va, vc, rfl, hvi⟩ := mrow_in hv
    have hB2 := Lib.hid (x1.out.trans (hb2.mono x1.out.size))
    have HV2 := Lib.hid hvi
    clear hv hb2 hvi P1
    go_wp2_with fail
    refine (R1.out _ hB2.out).mono ?_
    rintro e w3 ⟨⟨u, rfl, hu⟩, hb3⟩
    obtain ⟨ua, uc, rfl, hui⟩ := mrow_in hu
    have hB3 := Lib.hid (hB2.out.trans (hb3.mono hB2.out.size))
    have HSi := Lib.hid (sameInts_at va ua _ vc uc _ w3 (HV2.out.on hb3) hui (by omega))
    clear hu hb3 hB2 R1 hui HV2
    generalize (kpL n fr to lo hi m f).length = L at *
    go_wp2_with fail
    refine HSi.out.mono ?_
    rintro e w4 ⟨rfl, hb4⟩
    have hB4 := Lib.hid (hB3.out.trans (hb4.mono hB3.out.size))
    clear hb4 hB3 HSi
    obtain ⟨x4, rfl⟩ : ∃ x : After w, w4 = x.w := ⟨⟨w4, hB4.out⟩, rfl⟩
    clear HG PS HKB
    go_wp2
    go_ret
    exact ⟨rfl, hB4.out⟩
  have HKB2 := Lib.hid (fun v => HKB.out v rfl hL)
  clear HKB
  have HL := Lib.hid hL
  clear hL
  by_cases hm3 : (300 : Int) < (m : Int)
  case pos =>
    have b4 : decide ((300 : Int) < (m : Int)) = true := decide_eq_true hm3
    go_enter Tryd.func9, Tryd.ntmps9
    go_wp2_with fail
    refine calls_after (HAw.out _ (by (repeat' (first | (with_reducible exact Below.refl _ _) | (with_reducible assumption) | (with_reducible refine Below.alloc ?_ ?_ _) | (with_reducible refine Below.drew ?_) | (with_reducible refine below_drewN ?_ _) | (with_reducible refine Below.setCell ?_ ?_ _) | (with_reducible refine below_after ?_ ?_ _) | (with_reducible refine below_set ?_) | (with_reducible refine After.size_le _ ?_) | (with_reducible refine size_alloc_le ?_) | (with_reducible refine size_set_le ?_) | (with_reducible refine size_drewN_le ?_) | go_size)))) ?_
    intro x1
    go_wp2_with (go_at_call 11; refine (HM1.out _).mono ?_; rintro e w1 ⟨rfl, rfl⟩)
    refine (P1.out _ (by (repeat' (first | (with_reducible exact Below.refl _ _) | (with_reducible assumption) | (with_reducible refine Below.alloc ?_ ?_ _) | (with_reducible refine Below.drew ?_) | (with_reducible refine below_drewN ?_ _) | (with_reducible refine Below.setCell ?_ ?_ _) | (with_reducible refine below_after ?_ ?_ _) | (with_reducible refine below_set ?_) | (with_reducible refine After.size_le _ ?_) | (with_reducible refine size_alloc_le ?_) | (with_reducible refine size_set_le ?_) | (with_reducible refine size_drewN_le ?_) | go_size)))).mono ?_
    rintro e w2 ⟨⟨v, rfl, hv⟩, hb2⟩
    obtain ⟨va, vc, rfl, hvi⟩ := mrow_in hv
    have hB2 := Lib.hid (x1.out.trans (hb2.mono x1.out.size))
    have HV2 := Lib.hid hvi
    clear hv hb2 hvi P1
    go_wp2_with fail
    refine (R1.out _ hB2.out).mono ?_
    rintro e w3 ⟨⟨u, rfl, hu⟩, hb3⟩
    obtain ⟨ua, uc, rfl, hui⟩ := mrow_in hu
    have hB3 := Lib.hid (hB2.out.trans (hb3.mono hB2.out.size))
    have HSi := Lib.hid (sameInts_at va ua _ vc uc _ w3 (HV2.out.on hb3) hui (by omega))
    clear hu hb3 hB2 R1 hui HV2
    generalize (kpL n fr to lo hi m f).length = L at *
    go_wp2_with fail
    refine HSi.out.mono ?_
    rintro e w4 ⟨rfl, hb4⟩
    have hB4 := Lib.hid (hB3.out.trans (hb4.mono hB3.out.size))
    clear hb4 hB3 HSi
    obtain ⟨x4, rfl⟩ : ∃ x : After w, w4 = x.w := ⟨⟨w4, hB4.out⟩, rfl⟩
    have hL := HL.out
    subst hL
    clear HG PS
    go_wp2
    go_ret
    exact ⟨rfl, hB4.out⟩
  have b4 : decide ((300 : Int) < (m : Int)) = false := decide_eq_false hm3
  go_enter Tryd.func9, Tryd.ntmps9
  go_wp2_with fail
  refine calls_after (HAw.out _ (by (repeat' (first | (with_reducible exact Below.refl _ _) | (with_reducible assumption) | (with_reducible refine Below.alloc ?_ ?_ _) | (with_reducible refine Below.drew ?_) | (with_reducible refine below_drewN ?_ _) | (with_reducible refine Below.setCell ?_ ?_ _) | (with_reducible refine below_after ?_ ?_ _) | (with_reducible refine below_set ?_) | (with_reducible refine After.size_le _ ?_) | (with_reducible refine size_alloc_le ?_) | (with_reducible refine size_set_le ?_) | (with_reducible refine size_drewN_le ?_) | go_size)))) ?_
  intro x1
  go_wp2_with (go_at_call 11; refine (HM1.out _).mono ?_; rintro e w1 ⟨rfl, rfl⟩)
  refine (P1.out _ (by (repeat' (first | (with_reducible exact Below.refl _ _) | (with_reducible assumption) | (with_reducible refine Below.alloc ?_ ?_ _) | (with_reducible refine Below.drew ?_) | (with_reducible refine below_drewN ?_ _) | (with_reducible refine Below.setCell ?_ ?_ _) | (with_reducible refine below_after ?_ ?_ _) | (with_reducible refine below_set ?_) | (with_reducible refine After.size_le _ ?_) | (with_reducible refine size_alloc_le ?_) | (with_reducible refine size_set_le ?_) | (with_reducible refine size_drewN_le ?_) | go_size)))).mono ?_
  rintro e w2 ⟨⟨v, rfl, hv⟩, hb2⟩
  obtain ⟨va, vc, rfl, hvi⟩ := mrow_in hv
  have hB2 := Lib.hid (x1.out.trans (hb2.mono x1.out.size))
  have HV2 := Lib.hid hvi
  clear hv hb2 hvi P1
  go_wp2_with fail
  refine (R1.out _ hB2.out).mono ?_
  rintro e w3 ⟨⟨u, rfl, hu⟩, hb3⟩
  obtain ⟨ua, uc, rfl, hui⟩ := mrow_in hu
  have hB3 := Lib.hid (hB2.out.trans (hb3.mono hB2.out.size))
  have HSi := Lib.hid (sameInts_at va ua _ vc uc _ w3 (HV2.out.on hb3) hui (by omega))
  clear hu hb3 hB2 R1 hui HV2
  generalize (kpL n fr to lo hi m f).length = L at *
  go_wp2_with fail
  refine HSi.out.mono ?_
  rintro e w4 ⟨rfl, hb4⟩
  have hB4 := Lib.hid (hB3.out.trans (hb4.mono hB3.out.size))
  clear hb4 hB3 HSi
  obtain ⟨x4, rfl⟩ : ∃ x : After w, w4 = x.w := ⟨⟨w4, hB4.out⟩, rfl⟩
  have hL := HL.out
  subst hL
  go_wp2_with fail
  refine (PS.out _ x4.out).mono ?_
  rintro e w5 ⟨⟨t, g, rfl, hW⟩, hb5⟩
  obtain ⟨x5, rfl⟩ : ∃ x : After w, w5 = x.w := ⟨⟨w5, x4.out.trans (hb5.mono x4.out.size)⟩, rfl⟩
  clear hb5 PS
  by_cases hg : g = 0
  case neg =>
    have b5 : (g == 0) = false := beq_eq_false_iff_ne.2 hg
    clear HG HKB2 hW hg
    go_wp2
    go_ret
    exact ⟨rfl, by (repeat' (first | (with_reducible exact Below.refl _ _) | (with_reducible assumption) | (with_reducible refine Below.alloc ?_ ?_ _) | (with_reducible refine Below.drew ?_) | (with_reducible refine below_drewN ?_ _) | (with_reducible refine Below.setCell ?_ ?_ _) | (with_reducible refine below_after ?_ ?_ _) | (with_reducible refine below_set ?_) | (with_reducible refine After.size_le _ ?_) | (with_reducible refine size_alloc_le ?_) | (with_reducible refine size_set_le ?_) | (with_reducible refine size_drewN_le ?_) | go_size))⟩
  subst hg
  obtain ⟨h1, h2, h3, h4, h5⟩ := HKB2.out t hW
  obtain ⟨p, rfl⟩ : ∃ p : Nat, t = p := ⟨t.toNat, by omega⟩
  obtain ⟨q, rfl⟩ : ∃ q : Nat, k = q := ⟨k.toNat, by omega⟩
  have H5 := Lib.hid h5
  clear HKB2 hW h5
  go_wp2
  go_loop [15] (fun i => ∃ j : Nat, p ≤ j ∧ j ≤ p + q ∧ i = .int .i64 j) (fun i => p + q - (intOf i).toNat)
  case atStart => exact ⟨p, by omega, by omega, rfl⟩
  case round =>
    obtain ⟨j, hj, hjq, rfl⟩ := hrel
    by_cases hlt : j < p + q
    · have hlti : (j : Int) < (p : Int) + (q : Int) := by omega
      have hjm : j < m := by omega
      have d1 : decide ((m : Int) ≤ (j : Int)) = false := decide_eq_false (by omega)
      have d2 : decide (m ≤ j) = false := decide_eq_false (by omega)
      have d3 : decide (mark ≤ f j) = false := decide_eq_false (by have := H5.out j (by omega) hlti; omega)
      obtain ⟨b, off, rfl, hb, hc⟩ := HG.out j hjm
      generalize f j = fj at *
      go_wp2
      go_round
      case rel => exact ⟨j + 1, by omega, by omega, by go_num⟩
      case measure => simp [intOf]; omega
    · obtain rfl : j = p + q := by omega
      go_wp2
      go_ret
      exact ⟨rfl, by (repeat' (first | (with_reducible exact Below.refl _ _) | (with_reducible assumption) | (with_reducible refine Below.alloc ?_ ?_ _) | (with_reducible refine Below.drew ?_) | (with_reducible refine below_drewN ?_ _) | (with_reducible refine Below.setCell ?_ ?_ _) | (with_reducible refine below_after ?_ ?_ _) | (with_reducible refine below_set ?_) | (with_reducible refine After.size_le _ ?_) | (with_reducible refine size_alloc_le ?_) | (with_reducible refine size_set_le ?_) | (with_reducible refine size_drewN_le ?_) | go_size))⟩
end Go.Proofs.YtlnlgboeohfpdaaDoor
