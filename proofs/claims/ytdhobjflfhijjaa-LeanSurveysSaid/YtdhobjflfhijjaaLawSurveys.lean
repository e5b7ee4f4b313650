/- LeanSurveys: the law's walk. -/
import Derived.Test.YtdhobjflfhijjaaTurnr
import Derived.Test.YtdhobjflfhijjaaNearest
namespace Go.Proofs.Ytdhobjflfhijjaa
open Go.RowKit
attribute [local go_sem] After.cell After.frozen After.lt After.le After.ne After.ne' After.set_eq After.size_set After.lt_add

theorem rot4 (f : Nat → Nat → Int) : rotN f 4 = f := by
  funext i j
  simp only [rotN, rot]
  by_cases h1 : j = 1
  · subst h1; simp
  · by_cases h2 : j = 2
    · subst h2; simp
    · simp [h1, h2]
theorem GoodM.rot {n : Nat} {f : Nat → Nat → Int} (h : GoodM n f) : GoodM n (rot f) := by
  refine ⟨h.1, h.2.1, fun k hk => ⟨?_, fun h0 => ?_⟩⟩
  · have := (h.2.2 k hk).1
    unfold InMk at this ⊢
    simp only [Proofs.Ytdhobjflfhijjaa.rot]
    simp
    omega
  · have := (h.2.2 k hk).2 h0
    simpa [Proofs.Ytdhobjflfhijjaa.rot] using this
theorem GoodM.rotN {n : Nat} {f : Nat → Nat → Int} (h : GoodM n f) : ∀ q, GoodM n (rotN f q)
  | 0 => h
  | q + 1 => (GoodM.rotN h q).rot
theorem GoodM.bd {n : Nat} {f : Nat → Nat → Int} (h : GoodM n f) : Bd n f := fun i hi => by
  have := (h.2.2 i hi).1
  unfold InMk at this
  omega
theorem PtRow.below {W W' : World} {B : Nat} {v : Value} {n : Nat} {f : Nat → Nat → Int} (h : PtRow W B v n f) (hb : Below W.heap.size W W') : PtRow W' B v n f := by
  obtain ⟨g, cap, e, h1, h2, h3⟩ := h
  exact ⟨g, cap, e, h1, Nat.lt_of_lt_of_le h2 hb.size, fun i hi => ⟨(hb.cell (p := ⟨g, _, none⟩) h2).trans (h3 i hi).1, (hb.cell (p := ⟨g, _, none⟩) h2).trans (h3 i hi).2⟩⟩
theorem MkOwn.below {W W' : World} {B : Nat} {v : Value} {n : Nat} {f : Nat → Nat → Int} (h : MkOwn W B v n f) (hb : Below W.heap.size W W') : MkOwn W' B v n f := by
  obtain ⟨g, cap, e, h1, h2, h3, h4⟩ := h
  exact ⟨g, cap, e, h1, h2, h3, h4.below hb⟩
theorem same_pt {W : World} {B B' : Nat} {v v' : Value} {n : Nat} {f : Nat → Nat → Int} (h : PtRow W B v n f) (h' : PtRow W B' v' n f) (hn : n ≤ 1000) :
    Calls Try.prog 18 #[v, v'] W fun e w' => e = .returned (.bool true) ∧ Below W.heap.size W w' := by
  obtain ⟨g, cap, rfl, _, h2, h3⟩ := h
  obtain ⟨g', cap', rfl, _, h2', h3'⟩ := h'
  exact samePoints_row g g' n cap cap' f W h2 h2' hn h3 h3'
theorem same_mk {W : World} {B B' : Nat} {v v' : Value} {n : Nat} {f : Nat → Nat → Int} (h : MkOwn W B v n f) (h' : MkOwn W B' v' n f) (hn : n ≤ 1000) :
    Calls Try.prog 25 #[v, v'] W fun e w' => e = .returned (.bool true) ∧ Below W.heap.size W w' := by
  obtain ⟨g, cap, rfl, _, _, _, h2⟩ := h
  obtain ⟨g', cap', rfl, _, _, _, h2'⟩ := h'
  exact sameMarks_row g g' n cap cap' f W h2 h2' hn
theorem turn_own {W : World} {B : Nat} {v : Value} {n : Nat} {f : Nat → Nat → Int} (h : MkOwn W B v n f) (hG : GoodM n f) :
    Calls Try.prog 23 #[v, .int .i64 1] W fun x w' => ∃ v, x = .returned (.tuple #[v, .int .i64 0]) ∧ MkOwn w' W.heap.size v n (rot f) ∧ Below W.heap.size W w' := by
  obtain ⟨g, cap, rfl, hcap, hcm, _, h2⟩ := h
  have hV : MSay W (.slice (some ⟨g, 0, none⟩) n cap) true := fun W' hW' => by
    have := valid_any g 0 cap n f W' (Nat.lt_of_lt_of_le h2.lt hW'.size) hG.1 (by have := hG.2.1; omega) hcap hcm ((h2.below hW').mk')
    rwa [decide_eq_true hG] at this
  exact turned_ok g 0 cap n f 1 W h2.lt hG.1 hG.2.1 h2.mk' hG.bd (by unfold In64; omega) hV

set_option maxRecDepth 100000 in
set_option maxHeartbeats 1000000 in
theorem leanSurveys_long (aa : Option Addr) (na ca : Nat) (q : Int) (w : World) (hn : 100 < na) :
    Calls Try.prog 3 #[.slice aa na ca, .int .i64 q] w fun e w' => e = .returned (.bool true) ∧ Below w.heap.size w w' := by
  go_enter Try.func3, Try.ntmps3
  (go_wp2_with fail); refine calls_after (awake_any _) ?_; intro x1
  go_wp2
  go_ret
  exact ⟨rfl, by (repeat' (first | (with_reducible exact Below.refl _ _) | (with_reducible assumption) | (with_reducible refine Below.alloc ?_ ?_ _) | (with_reducible refine Below.drew ?_) | (with_reducible refine below_drewN ?_ _) | (with_reducible refine Below.setCell ?_ ?_ _) | (with_reducible refine below_after ?_ ?_ _) | (with_reducible refine below_set ?_) | (with_reducible refine After.size_le _ ?_) | (with_reducible refine size_alloc_le ?_) | (with_reducible refine size_set_le ?_) | (with_reducible refine size_drewN_le ?_) | go_size))⟩
set_option maxRecDepth 100000 in
set_option maxHeartbeats 1000000 in
theorem leanSurveys_bad (aa : Option Addr) (na ca : Nat) (q : Int) (w : World) (hn : na ≤ 100) (ha : MSay w (.slice aa na ca) false) (hr : RMSay w (.slice aa na ca) false) :
    Calls Try.prog 3 #[.slice aa na ca, .int .i64 q] w fun e w' => e = .returned (.bool true) ∧ Below w.heap.size w w' := by
  have on : ∀ {W : World}, Below w.heap.size w W → MSay W (.slice aa na ca) false := fun hW W' hW' => ha W' (hW.trans (hW'.mono hW.size))
  have ron : ∀ {W : World}, Below w.heap.size w W → RMSay W (.slice aa na ca) false := fun hW W' hW' => hr W' (hW.trans (hW'.mono hW.size))
  have H1 : Hid (∀ W, Below w.heap.size w W → _) := fun W hW => least_bad (.slice aa na ca) W (on hW)
  have H2 : Hid (∀ W, Below w.heap.size w W → _) := fun W hW => reast_bad (.slice aa na ca) W (ron hW)
  have H3 : Hid (∀ W, Below w.heap.size w W → _) := fun W hW => lnorth_bad (.slice aa na ca) W (on hW)
  have H4 : Hid (∀ W, Below w.heap.size w W → _) := fun W hW => rnorth_bad (.slice aa na ca) W (ron hW)
  have H5 : Hid (∀ W, Below w.heap.size w W → _) := fun W hW => turned_bad (.slice aa na ca) q W (on hW)
  have H6 : Hid (∀ W, Below w.heap.size w W → _) := fun W hW => rturned_bad (.slice aa na ca) q W (ron hW)
  have H7 : Hid (∀ W, Below w.heap.size w W → _) := ha
  have H8 : Hid (∀ W, Below w.heap.size w W → _) := hr
  clear on ron ha hr
  go_enter Try.func3, Try.ntmps3
  (go_wp2_with fail); refine calls_after (H1.out _ (by (repeat' (first | (with_reducible exact Below.refl _ _) | (with_reducible assumption) | (with_reducible refine Below.alloc ?_ ?_ _) | (with_reducible refine Below.drew ?_) | (with_reducible refine below_drewN ?_ _) | (with_reducible refine Below.setCell ?_ ?_ _) | (with_reducible refine below_after ?_ ?_ _) | (with_reducible refine below_set ?_) | (with_reducible refine After.size_le _ ?_) | (with_reducible refine size_alloc_le ?_) | (with_reducible refine size_set_le ?_) | (with_reducible refine size_drewN_le ?_) | go_size)))) ?_; intro x1
  (go_wp2_with fail); refine calls_after2 (H2.out _ (by (repeat' (first | (with_reducible exact Below.refl _ _) | (with_reducible assumption) | (with_reducible refine Below.alloc ?_ ?_ _) | (with_reducible refine Below.drew ?_) | (with_reducible refine below_drewN ?_ _) | (with_reducible refine Below.setCell ?_ ?_ _) | (with_reducible refine below_after ?_ ?_ _) | (with_reducible refine below_set ?_) | (with_reducible refine After.size_le _ ?_) | (with_reducible refine size_alloc_le ?_) | (with_reducible refine size_set_le ?_) | (with_reducible refine size_drewN_le ?_) | go_size)))) ?_; intro x2
  (go_wp2_with fail); refine calls_after2 (samePoints_nil _ _ _ _ _) ?_; intro x3
  (go_wp2_with fail); refine calls_after2 (H7.out _ (by (repeat' (first | (with_reducible exact Below.refl _ _) | (with_reducible assumption) | (with_reducible refine Below.alloc ?_ ?_ _) | (with_reducible refine Below.drew ?_) | (with_reducible refine below_drewN ?_ _) | (with_reducible refine Below.setCell ?_ ?_ _) | (with_reducible refine below_after ?_ ?_ _) | (with_reducible refine below_set ?_) | (with_reducible refine After.size_le _ ?_) | (with_reducible refine size_alloc_le ?_) | (with_reducible refine size_set_le ?_) | (with_reducible refine size_drewN_le ?_) | go_size)))) ?_; intro x4
  (go_wp2_with fail); refine calls_after2 (H8.out _ (by (repeat' (first | (with_reducible exact Below.refl _ _) | (with_reducible assumption) | (with_reducible refine Below.alloc ?_ ?_ _) | (with_reducible refine Below.drew ?_) | (with_reducible refine below_drewN ?_ _) | (with_reducible refine Below.setCell ?_ ?_ _) | (with_reducible refine below_after ?_ ?_ _) | (with_reducible refine below_set ?_) | (with_reducible refine After.size_le _ ?_) | (with_reducible refine size_alloc_le ?_) | (with_reducible refine size_set_le ?_) | (with_reducible refine size_drewN_le ?_) | go_size)))) ?_; intro x5
  (go_wp2_with fail); refine calls_after2 (H3.out _ (by (repeat' (first | (with_reducible exact Below.refl _ _) | (with_reducible assumption) | (with_reducible refine Below.alloc ?_ ?_ _) | (with_reducible refine Below.drew ?_) | (with_reducible refine below_drewN ?_ _) | (with_reducible refine Below.setCell ?_ ?_ _) | (with_reducible refine below_after ?_ ?_ _) | (with_reducible refine below_set ?_) | (with_reducible refine After.size_le _ ?_) | (with_reducible refine size_alloc_le ?_) | (with_reducible refine size_set_le ?_) | (with_reducible refine size_drewN_le ?_) | go_size)))) ?_; intro x6
  (go_wp2_with fail); refine calls_after2 (H4.out _ (by (repeat' (first | (with_reducible exact Below.refl _ _) | (with_reducible assumption) | (with_reducible refine Below.alloc ?_ ?_ _) | (with_reducible refine Below.drew ?_) | (with_reducible refine below_drewN ?_ _) | (with_reducible refine Below.setCell ?_ ?_ _) | (with_reducible refine below_after ?_ ?_ _) | (with_reducible refine below_set ?_) | (with_reducible refine After.size_le _ ?_) | (with_reducible refine size_alloc_le ?_) | (with_reducible refine size_set_le ?_) | (with_reducible refine size_drewN_le ?_) | go_size)))) ?_; intro x7
  (go_wp2_with fail); refine calls_after2 (samePoints_nil _ _ _ _ _) ?_; intro x8
  (go_wp2_with fail); refine calls_after2 (H5.out _ (by (repeat' (first | (with_reducible exact Below.refl _ _) | (with_reducible assumption) | (with_reducible refine Below.alloc ?_ ?_ _) | (with_reducible refine Below.drew ?_) | (with_reducible refine below_drewN ?_ _) | (with_reducible refine Below.setCell ?_ ?_ _) | (with_reducible refine below_after ?_ ?_ _) | (with_reducible refine below_set ?_) | (with_reducible refine After.size_le _ ?_) | (with_reducible refine size_alloc_le ?_) | (with_reducible refine size_set_le ?_) | (with_reducible refine size_drewN_le ?_) | go_size)))) ?_; intro x9
  (go_wp2_with fail); refine calls_after2 (H6.out _ (by (repeat' (first | (with_reducible exact Below.refl _ _) | (with_reducible assumption) | (with_reducible refine Below.alloc ?_ ?_ _) | (with_reducible refine Below.drew ?_) | (with_reducible refine below_drewN ?_ _) | (with_reducible refine Below.setCell ?_ ?_ _) | (with_reducible refine below_after ?_ ?_ _) | (with_reducible refine below_set ?_) | (with_reducible refine After.size_le _ ?_) | (with_reducible refine size_alloc_le ?_) | (with_reducible refine size_set_le ?_) | (with_reducible refine size_drewN_le ?_) | go_size)))) ?_; intro x10
  (go_wp2_with fail); refine calls_after2 (sameMarks_nil _ _ _ _ _) ?_; intro x11
  (go_wp2_with fail); refine calls_after2 (awake_any _) ?_; intro x12
  go_wp2
  go_ret
  exact ⟨rfl, by (repeat' (first | (with_reducible exact Below.refl _ _) | (with_reducible assumption) | (with_reducible refine Below.alloc ?_ ?_ _) | (with_reducible refine Below.drew ?_) | (with_reducible refine below_drewN ?_ _) | (with_reducible refine Below.setCell ?_ ?_ _) | (with_reducible refine below_after ?_ ?_ _) | (with_reducible refine below_set ?_) | (with_reducible refine After.size_le _ ?_) | (with_reducible refine size_alloc_le ?_) | (with_reducible refine size_set_le ?_) | (with_reducible refine size_drewN_le ?_) | go_size))⟩

set_option maxRecDepth 100000 in
set_option maxHeartbeats 2000000 in
theorem leanSurveys_good (b off cap n : Nat) (f : Nat → Nat → Int) (q : Int) (w : World) (hb : b < w.heap.size) (hc : MkCells w b off n f) (hG : GoodM n f) (hq : In64 q)
    (ha : MSay w (.slice (some ⟨b, off, none⟩) n cap) true) (hr : RMSay w (.slice (some ⟨b, off, none⟩) n cap) true) :
    Calls Try.prog 3 #[.slice (some ⟨b, off, none⟩) n cap, .int .i64 q] w fun e w' => e = .returned (.bool true) ∧ Below w.heap.size w w' := by
  have h1 := hG.1
  have h40 := hG.2.1
  have on : ∀ {W : World}, Below w.heap.size w W → MSay W (.slice (some ⟨b, off, none⟩) n cap) true := fun hW W' hW' => ha W' (hW.trans (hW'.mono hW.size))
  have ron : ∀ {W : World}, Below w.heap.size w W → RMSay W (.slice (some ⟨b, off, none⟩) n cap) true := fun hW W' hW' => hr W' (hW.trans (hW'.mono hW.size))
  have H1 : Hid (∀ W, Below w.heap.size w W → _) := fun W hW => least_ok b off cap n f W (Nat.lt_of_lt_of_le hb hW.size) h40 (hc.on hb hW) (on hW)
  have H2 : Hid (∀ W, Below w.heap.size w W → _) := fun W hW => reast_ok b off cap n f W (Nat.lt_of_lt_of_le hb hW.size) h1 h40 (hc.on hb hW) (ron hW)
  have H3 : Hid (∀ W, Below w.heap.size w W → _) := fun W hW => lnorth_ok b off cap n f W (Nat.lt_of_lt_of_le hb hW.size) h40 (hc.on hb hW) (on hW)
  have H4 : Hid (∀ W, Below w.heap.size w W → _) := fun W hW => rnorth_ok b off cap n f W (Nat.lt_of_lt_of_le hb hW.size) h1 h40 (hc.on hb hW) (ron hW)
  have H5 : Hid (∀ W, Below w.heap.size w W → _) := fun W hW => turned_ok b off cap n f q W (Nat.lt_of_lt_of_le hb hW.size) h1 h40 (hc.on hb hW) hG.bd hq (on hW)
  have H6 : Hid (∀ W, Below w.heap.size w W → _) := fun W hW => rturned_ok b off cap n f q W (Nat.lt_of_lt_of_le hb hW.size) h1 h40 (hc.on hb hW) hG.bd (ron hW)
  have H7 : Hid (∀ W, Below w.heap.size w W → _) := ha
  have H8 : Hid (∀ W, Below w.heap.size w W → _) := hr
  have hGR := hG.rotN (q % 4).toNat
  have hd : decide (100 < (n : Int)) = false := by simp; omega
  have hn1 : n ≤ 1000 := by omega
  generalize rotN f (q % 4).toNat = Q at H5 H6 hGR
  clear on ron ha hr hc hG
  go_enter Try.func3, Try.ntmps3
  go_wp2_with fail
  refine (H1.out _ (Below.refl _ _)).mono ?_
  rintro e w1 ⟨v1, rfl, hp1, hb1⟩
  have HP1 := Lib.hid hp1
  clear hp1 H1
  go_wp2_with fail
  refine (H2.out _ hb1).mono ?_
  rintro e w2 ⟨v2, rfl, hp2, hb2⟩
  have HS1 := Lib.hid (same_pt (HP1.out.below hb2) hp2 hn1)
  have hB2 := hb1.trans (hb2.mono hb1.size)
  clear hp2 H2 HP1 hb1 hb2
  go_wp2_with fail
  refine (HS1.out).mono ?_
  rintro e w3 ⟨rfl, hb3⟩
  have hB3 := hB2.trans (hb3.mono hB2.size)
  clear HS1 hb3 hB2
  go_wp2_with fail
  refine (H7.out _ hB3).mono ?_
  rintro e w4 ⟨rfl, hb4⟩
  have hB4 := hB3.trans (hb4.mono hB3.size)
  clear H7 hb4 hB3
  go_wp2_with fail
  refine (H8.out _ hB4).mono ?_
  rintro e w5 ⟨rfl, hb5⟩
  have hB5 := hB4.trans (hb5.mono hB4.size)
  clear H8 hb5 hB4
  go_wp2_with fail
  refine (H3.out _ hB5).mono ?_
  rintro e w6 ⟨v3, rfl, hp3, hb6⟩
  have HP3 := Lib.hid hp3
  have hB6 := hB5.trans (hb6.mono hB5.size)
  clear hp3 H3 hb6 hB5
  go_wp2_with fail
  refine (H4.out _ hB6).mono ?_
  rintro e w7 ⟨v4, rfl, hp4, hb7⟩
  have HS2 := Lib.hid (same_pt (HP3.out.below hb7) hp4 hn1)
  have hB7 := hB6.trans (hb7.mono hB6.size)
  clear hp4 H4 HP3 hb7 hB6
  go_wp2_with fail
  refine (HS2.out).mono ?_
  rintro e w8 ⟨rfl, hb8⟩
  have hB8 := hB7.trans (hb8.mono hB7.size)
  clear HS2 hb8 hB7
  go_wp2_with fail
  refine (H5.out _ hB8).mono ?_
  rintro e w9 ⟨m, rfl, hm, hb9⟩
  have HM := Lib.hid hm
  have hB9 := hB8.trans (hb9.mono hB8.size)
  clear hm H5 hb9 hB8
  go_wp2_with fail
  refine (H6.out _ hB9).mono ?_
  rintro e wa ⟨u, rfl, hu, hba⟩
  have hm := HM.out.below hba
  have hBa := hB9.trans (hba.mono hB9.size)
  have HS3 := Lib.hid (same_mk hm hu hn1)
  have HM' := Lib.hid hm
  have HU := Lib.hid hu
  clear hm hu HM H6 hba hB9
  go_wp2_with fail
  refine (HS3.out).mono ?_
  rintro e wb ⟨rfl, hbb⟩
  have HM := Lib.hid (HM'.out.below hbb)
  have HV := Lib.hid (HU.out.below hbb)
  have hBb := hBa.trans (hbb.mono hBa.size)
  clear HM' HU HS3 hbb hBa
  go_wp2
  go_loopw [10, 11] (fun u i wr => ∃ k : Nat, k ≤ 4 ∧ i = .int .i64 k ∧ ∃ B, MkOwn wr B u n (rotN Q k) ∧ Below wb.heap.size wb wr) (fun _ i _ => 4 - (intOf i).toNat)
  case atStart => exact ⟨0, by omega, rfl, _, HV.out, Below.refl _ _⟩
  case round =>
    obtain ⟨k, hk, rfl, B, hU, hBr⟩ := hrel
    by_cases hlt : k < 4
    · have HT := Lib.hid (turn_own hU (hGR.rotN k))
      clear hU
      go_wp2_with fail
      refine (HT.out).mono ?_
      rintro e wc ⟨v', rfl, hu', hbc⟩
      have HU' := Lib.hid hu'
      clear hu' HT
      go_wp2
      go_roundw
      case rel => exact ⟨k + 1, by omega, by go_num, _, HU'.out, hBr.trans (hbc.mono hBr.size)⟩
      case measure => simp [intOf]; omega
    · obtain rfl : k = 4 := by omega
      rw [rot4] at hU
      have HS := Lib.hid (same_mk (HM.out.below hBr) hU hn1)
      have hBz := hBb.trans (hBr.mono hBb.size)
      clear hU HM HV hBr hBb
      go_wp2_with fail
      refine (HS.out).mono ?_
      rintro e wd ⟨rfl, hbd⟩
      have hBd := hBz.trans (hbd.mono hBz.size)
      clear HS hbd hBz
      go_wp2_with fail
      refine (awake_any _).mono ?_
      rintro e we ⟨rfl, hbe⟩
      go_wp2
      go_ret
      exact ⟨rfl, hBd.trans (hbe.mono hBd.size)⟩

theorem leanSurveys_any (va : Value) (q : Int) (na : Nat) (f : Nat → Nat → Int) (w : World) (hq : In64 q) (ha : Mks w va na f) :
    Calls Try.prog 3 #[va, .int .i64 q] w fun e w' => e = .returned (.bool true) ∧ Below w.heap.size w w' := by
  by_cases la : na ≤ 100
  · have sa := say_mks ha la
    have ra := rsay_mks ha la
    by_cases hA : GoodM na f
    · rw [decide_eq_true hA] at sa ra
      obtain ⟨p, off, cap, rfl, hp, hc⟩ := mks_good ha hA
      exact leanSurveys_good p off cap na f q w hp hc hA hq sa ra
    · rw [decide_eq_false hA] at sa ra
      obtain ⟨aa, ca, rfl⟩ := mks_slice ha
      exact leanSurveys_bad aa na ca q w la sa ra
  · obtain ⟨aa, ca, rfl⟩ := mks_slice ha
    exact leanSurveys_long aa na ca q w (by omega)
end Go.Proofs.Ytdhobjflfhijjaa
