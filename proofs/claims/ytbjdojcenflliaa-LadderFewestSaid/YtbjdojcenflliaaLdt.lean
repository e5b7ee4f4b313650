/- highest, passable, Stuck and Reach in the program. -/
import Derived.Test.YtbjdojcenflliaaLdy
namespace Go.Proofs.Ytbjdojcenflliaa
open Go.RowKit Go.Shelf
attribute [local go_sem] Oper.semAt_some
attribute [local go_sem] After.cell After.frozen After.lt After.le After.ne After.ne' After.set_eq After.size_set After.lt_add

set_option maxRecDepth 100000 in
set_option maxHeartbeats 2000000 in
theorem highest_any (a : Option Addr) (n cap : Nat) (hg : Nat → Int) (us : Nat → Bool) (fi st la : Int) (w : World) (hA : JtAt w a n hg us) (hn : n ≤ 1000) (h1 : ∀ k < n, -1000000 ≤ hg k ∧ hg k ≤ 1000000) (h2 : -1000000 ≤ st ∧ st ≤ 1000000) :
    Calls Try.prog 56 #[.agg #[.slice a n cap, .int .i64 fi, .int .i64 st, .int .i64 la]] w fun e w' => e = .returned (.int .i64 (hiS hg us fi st n).1) ∧ Below w.heap.size w w' := by
  have HA := Lib.hid hA
  have hnI : (n : Int) ≤ 1000 := by omega
  clear hA
  go_enter Try.func56, Try.ntmps56
  go_wp2
  obtain ⟨W0, hW0⟩ : ∃ W0, w.alloc (.cells #[.slice a n cap, .int .i64 fi, .int .i64 st, .int .i64 la] 60) = W0 := ⟨_, rfl⟩
  have b0 : Below w.heap.size w W0 := by rw [← hW0]; (repeat' (first | (with_reducible exact Below.refl _ _) | (with_reducible assumption) | (with_reducible refine Below.alloc ?_ ?_ _) | (with_reducible refine Below.drew ?_) | (with_reducible refine below_drewN ?_ _) | (with_reducible refine Below.setCell ?_ ?_ _) | (with_reducible refine below_after ?_ ?_ _) | (with_reducible refine below_set ?_) | (with_reducible refine After.size_le _ ?_) | (with_reducible refine size_alloc_le ?_) | (with_reducible refine size_set_le ?_) | (with_reducible refine size_drewN_le ?_) | go_size))
  have er := rtB_new w 60 (.slice a n cap) fi st la
  rw [hW0] at er
  rw [hW0]
  have g0 := er.g0
  have g1 := er.g1
  have g2 := er.g2
  have g3 := er.g3
  have HBd := Lib.hid (b0.trans (((Fr.refl (M := fun _ => False) W0).drew).below b0.size (fun _ _ h => h)))
  have HRd := Lib.hid (er.fr ((Fr.refl (M := fun _ => False) W0).drew) id)
  clear er hW0 b0
  go_region
  go_wp2
  go_loopw [3, 4, 12] (fun f t i W => ∃ k : Nat, k ≤ n ∧ i = .int .i64 k ∧ f = .int .i64 (hiS hg us fi st k).1 ∧ t = .int .i64 (hiS hg us fi st k).2 ∧ Hid (Below w.heap.size w W ∧ RtB W w.heap.size (.slice a n cap) fi st la)) (fun _ _ i _ => n - (intOf i).toNat)
  case atStart => exact ⟨0, Nat.zero_le _, rfl, rfl, rfl, Lib.hid ⟨HBd.out, HRd.out⟩⟩
  case round =>
    clear g0 g1 g2 g3 HBd HRd
    obtain ⟨k, hk, rfl, rfl, rfl, HI⟩ := hrel
    by_cases hlt : k < n
    · have hlti : (k : Int) < (n : Int) := by omega
      obtain ⟨b, off, rfl, hbb, c0, c1⟩ := (HA.out.on HI.out.1) k hlt
      have HS : Hid (hiS hg us fi st (k + 1) = if us k = true ∧ hg k ≤ (hiS hg us fi st k).2 then (hg k, max (hiS hg us fi st k).2 (hg k + st)) else hiS hg us fi st k) := Lib.hid rfl
      have HZ : Hid (∀ z : Bool, Below w.heap.size w (wr.alloc (.cells #[.int .i64 (hg k), .bool z] 79)) ∧ RtB (wr.alloc (.cells #[.int .i64 (hg k), .bool z] 79)) w.heap.size (.slice (some ⟨b, off, none⟩) n cap) fi st la) := Lib.hid (fun z => ⟨HI.out.1.alloc HI.out.1.size _, HI.out.2.fr ((Fr.refl (M := fun _ => False) wr).alloc _) id⟩)
      have HRc := Lib.hid (fun W hW => reachFrom_any (some ⟨b, off, none⟩) n cap hg us fi st la k W hW hlt (h1 k hlt) h2)
      obtain ⟨hH, hT⟩ : ∃ x : Int × Int, hiS hg us fi st k = x := ⟨_, rfl⟩
      obtain ⟨vH, vT⟩ := hH
      rw [hT] at HS ⊢
      clear hT
      generalize hg k = hk' at *
      dsimp only at HS ⊢
      cases hus : us k
      · rw [hus] at HS c1
        clear hus
        rw [if_neg (fun h => by cases h.1)] at HS
        go_wp2
        go_roundw
        case rel => exact ⟨k + 1, by omega, by go_num, by rw [HS.out], by rw [HS.out], Lib.hid (HZ.out false)⟩
        case measure => simp [intOf]; omega
      · rw [hus] at HS c1
        by_cases hle : hk' ≤ vT
        · rw [if_pos ⟨rfl, hle⟩] at HS
          obtain ⟨Z, hZ⟩ : ∃ Z, wr.alloc (.cells #[.int .i64 hk', .bool true] 79) = Z := ⟨_, rfl⟩
          have HZt := Lib.hid (HZ.out true)
          rw [hZ] at HZt
          have kx0 : Z.cell? ⟨wr.heap.size, 0, none⟩ = some (.int .i64 hk') := by rw [← hZ]; simp [go_sem]
          have kx1 : Z.cell? ⟨wr.heap.size, 1, none⟩ = some (.bool true) := by rw [← hZ]; simp [go_sem]
          have kxl : wr.heap.size < Z.heap.size := by rw [← hZ]; simp
          have g0 := HZt.out.2.g0
          have g1 := HZt.out.2.g1
          have g2 := HZt.out.2.g2
          have g3 := HZt.out.2.g3
          have gl := HZt.out.2.lt
          have HJ := Lib.hid (HA.out.on HZt.out.1)
          clear hus HZ HI
          go_wp2
          refine wp_region_after (by kernel_rfl) (by kernel_rfl) ?_; (repeat (first | go_big_quiet_step ((go_at_call 70; exact quiet_after (HRc.out _ (HJ.out.on (by (repeat' (first | (with_reducible exact Below.refl _ _) | (with_reducible assumption) | (with_reducible refine Below.alloc ?_ ?_ _) | (with_reducible refine Below.drew ?_) | (with_reducible refine below_drewN ?_ _) | (with_reducible refine Below.setCell ?_ ?_ _) | (with_reducible refine below_after ?_ ?_ _) | (with_reducible refine below_set ?_) | (with_reducible refine After.size_le _ ?_) | (with_reducible refine size_alloc_le ?_) | (with_reducible refine size_set_le ?_) | (with_reducible refine size_drewN_le ?_) | go_size))))))) | (refine wpQuiet_step (fun K hK => ?_); go_simp; first | (refine hK _ ?_; clear hK K) | (apply Exists.intro; refine ⟨fun x => ?_, hK _ ?_⟩; (go_at_call 70; exact quiet_after (HRc.out _ (HJ.out.on (by (repeat' (first | (with_reducible exact Below.refl _ _) | (with_reducible assumption) | (with_reducible refine Below.alloc ?_ ?_ _) | (with_reducible refine Below.drew ?_) | (with_reducible refine below_drewN ?_ _) | (with_reducible refine Below.setCell ?_ ?_ _) | (with_reducible refine below_after ?_ ?_ _) | (with_reducible refine below_set ?_) | (with_reducible refine After.size_le _ ?_) | (with_reducible refine size_alloc_le ?_) | (with_reducible refine size_set_le ?_) | (with_reducible refine size_drewN_le ?_) | go_size)))))); clear hK K)))); refine wpQuiet_nil ?_
          intro y
          have HI2 := Lib.hid (And.intro (HZt.out.1.trans (y.out.mono HZt.out.1.size)) (HZt.out.2.on y.out))
          go_wp2
          go_roundw
          case rel => exact ⟨k + 1, by omega, by go_num, by rw [HS.out], by rw [HS.out]; show Value.int .i64 _ = Value.int .i64 (max vT (hk' + st)); congr 1; split <;> omega, HI2⟩
          case measure => simp [intOf]; omega
        · rw [if_neg (fun h => hle h.2)] at HS
          clear hus
          go_wp2
          go_roundw
          case rel => exact ⟨k + 1, by omega, by go_num, by rw [HS.out], by rw [HS.out], Lib.hid (HZ.out true)⟩
          case measure => simp [intOf]; omega
    · obtain rfl : k = n := by omega
      go_wp2
      go_ret
      exact ⟨rfl, HI.out.1⟩
set_option maxRecDepth 100000 in
set_option maxHeartbeats 1000000 in
theorem passable_any (a : Option Addr) (n cap : Nat) (hg : Nat → Int) (us : Nat → Bool) (fi st la : Int) (w : World) (hA : JtAt w a n hg us) (hn : n ≤ 1000) (h1 : ∀ k < n, -1000000 ≤ hg k ∧ hg k ≤ 1000000) (h2 : -1000000 ≤ st ∧ st ≤ 1000000) {q : Bool} (hq : decide (0 < (hiS hg us fi st n).1 ∧ la ≤ (hiS hg us fi st n).1) = q) :
    Calls Try.prog 55 #[.agg #[.slice a n cap, .int .i64 fi, .int .i64 st, .int .i64 la]] w fun e w' => e = .returned (.bool q) ∧ Below w.heap.size w w' := by
  have HH := Lib.hid (fun W (hW : Below w.heap.size w W) => highest_any a n cap hg us fi st la W (hA.on hW) hn h1 h2)
  generalize (hiS hg us fi st n).1 = H at *
  clear hA
  by_cases p1 : 0 < H
  · obtain rfl : decide (la ≤ H) = q := by
      rw [← hq, Bool.eq_iff_iff]
      simp only [decide_eq_true_eq]
      exact ⟨fun h => ⟨p1, h⟩, fun h => h.2⟩
    clear hq
    go_enter Try.func55, Try.ntmps55
    go_wp2_with fail
    refine calls_after (HH.out _ (by (repeat' (first | (with_reducible exact Below.refl _ _) | (with_reducible assumption) | (with_reducible refine Below.alloc ?_ ?_ _) | (with_reducible refine Below.drew ?_) | (with_reducible refine below_drewN ?_ _) | (with_reducible refine Below.setCell ?_ ?_ _) | (with_reducible refine below_after ?_ ?_ _) | (with_reducible refine below_set ?_) | (with_reducible refine After.size_le _ ?_) | (with_reducible refine size_alloc_le ?_) | (with_reducible refine size_set_le ?_) | (with_reducible refine size_drewN_le ?_) | go_size)))) ?_
    intro x
    go_wp2
    go_returns
    exact ⟨rfl, by (repeat' (first | (with_reducible exact Below.refl _ _) | (with_reducible assumption) | (with_reducible refine Below.alloc ?_ ?_ _) | (with_reducible refine Below.drew ?_) | (with_reducible refine below_drewN ?_ _) | (with_reducible refine Below.setCell ?_ ?_ _) | (with_reducible refine below_after ?_ ?_ _) | (with_reducible refine below_set ?_) | (with_reducible refine After.size_le _ ?_) | (with_reducible refine size_alloc_le ?_) | (with_reducible refine size_set_le ?_) | (with_reducible refine size_drewN_le ?_) | go_size))⟩
  · obtain rfl : false = q := (decide_eq_false fun h => p1 h.1).symm.trans hq
    clear hq
    go_enter Try.func55, Try.ntmps55
    go_wp2_with fail
    refine calls_after (HH.out _ (by (repeat' (first | (with_reducible exact Below.refl _ _) | (with_reducible assumption) | (with_reducible refine Below.alloc ?_ ?_ _) | (with_reducible refine Below.drew ?_) | (with_reducible refine below_drewN ?_ _) | (with_reducible refine Below.setCell ?_ ?_ _) | (with_reducible refine below_after ?_ ?_ _) | (with_reducible refine below_set ?_) | (with_reducible refine After.size_le _ ?_) | (with_reducible refine size_alloc_le ?_) | (with_reducible refine size_set_le ?_) | (with_reducible refine size_drewN_le ?_) | go_size)))) ?_
    intro x
    go_wp2
    go_returns
    exact ⟨rfl, by (repeat' (first | (with_reducible exact Below.refl _ _) | (with_reducible assumption) | (with_reducible refine Below.alloc ?_ ?_ _) | (with_reducible refine Below.drew ?_) | (with_reducible refine below_drewN ?_ _) | (with_reducible refine Below.setCell ?_ ?_ _) | (with_reducible refine below_after ?_ ?_ _) | (with_reducible refine below_set ?_) | (with_reducible refine After.size_le _ ?_) | (with_reducible refine size_alloc_le ?_) | (with_reducible refine size_set_le ?_) | (with_reducible refine size_drewN_le ?_) | go_size))⟩
section
variable (fi ga tp le lp sg : Int) (a : Option Addr) (n cap : Nat) (hg : Nat → Int) (sd : Nat → Bool) (w : World) (hA : JtAt w a n hg sd) (hn : n ≤ 9223372036854775807)
include hA hn
set_option maxRecDepth 100000 in
set_option maxHeartbeats 1000000 in
theorem Stuck_bad (hv : ¬ (VcP fi ga tp le lp sg ∧ VjP n hg)) : Calls Try.prog 24 #[.agg #[.int .i64 fi, .int .i64 ga, .int .i64 tp, .int .i64 le, .int .i64 lp, .int .i64 sg], .slice a n cap] w fun e w' => e = .returned (.tuple #[.int .i64 0, .int .i64 1]) ∧ Below w.heap.size w w' := by
  have HV := Lib.hid (fun W (hW : Below w.heap.size w W) => wvalid_any fi ga tp le lp sg a n cap hg sd W (hA.on hW) hn)
  have hd : (decide (VcP fi ga tp le lp sg) && decide (VjP n hg)) = false := by
    rw [← Bool.not_eq_true, Bool.and_eq_true, decide_eq_true_eq, decide_eq_true_eq]; exact hv
  rw [hd] at HV
  clear hA
  go_enter Try.func24, Try.ntmps24
  go_wp2_with fail
  refine calls_after (HV.out _ (by (repeat' (first | (with_reducible exact Below.refl _ _) | (with_reducible assumption) | (with_reducible refine Below.alloc ?_ ?_ _) | (with_reducible refine Below.drew ?_) | (with_reducible refine below_drewN ?_ _) | (with_reducible refine Below.setCell ?_ ?_ _) | (with_reducible refine below_after ?_ ?_ _) | (with_reducible refine below_set ?_) | (with_reducible refine After.size_le _ ?_) | (with_reducible refine size_alloc_le ?_) | (with_reducible refine size_set_le ?_) | (with_reducible refine size_drewN_le ?_) | go_size)))) ?_
  intro x1
  go_wp2
  go_returns
  exact ⟨rfl, by (repeat' (first | (with_reducible exact Below.refl _ _) | (with_reducible assumption) | (with_reducible refine Below.alloc ?_ ?_ _) | (with_reducible refine Below.drew ?_) | (with_reducible refine below_drewN ?_ _) | (with_reducible refine Below.setCell ?_ ?_ _) | (with_reducible refine below_after ?_ ?_ _) | (with_reducible refine below_set ?_) | (with_reducible refine After.size_le _ ?_) | (with_reducible refine size_alloc_le ?_) | (with_reducible refine size_set_le ?_) | (with_reducible refine size_drewN_le ?_) | go_size))⟩
set_option maxRecDepth 100000 in
set_option maxHeartbeats 1000000 in
theorem Stuck_ok (hc : VcP fi ga tp le lp sg) (hj : VjP n hg) : Calls Try.prog 24 #[.agg #[.int .i64 fi, .int .i64 ga, .int .i64 tp, .int .i64 le, .int .i64 lp, .int .i64 sg], .slice a n cap] w fun e w' => ((fwL hg sd n fi ga (tp - ga) ≠ [] ∧ e = .returned (.tuple #[.int .i64 0, .int .i64 8])) ∨ (fwL hg sd n fi ga (tp - ga) = [] ∧ e = .returned (.tuple #[.int .i64 (hiS hg sd fi ga n).1, .int .i64 0]))) ∧ Below w.heap.size w w' := by
  have HV := Lib.hid (fun W (hW : Below w.heap.size w W) => wvalid_any fi ga tp le lp sg a n cap hg sd W (hA.on hW) hn)
  have hd : (decide (VcP fi ga tp le lp sg) && decide (VjP n hg)) = true := by simp [hc, hj]
  rw [hd] at HV
  have HA := Lib.hid hA
  have hn2 : n ≤ 1000 := by have := hj.1; omega
  have hga : 1 ≤ ga ∧ ga ≤ 200000 := hc.2.1
  have htp : 1 ≤ tp ∧ tp ≤ 200000 := hc.2.2.1
  have HF := Lib.hid (fun W hW => forDogs_any fi ga tp le lp sg a n cap hg sd W hW hn hn2 hga htp)
  have hpp := hi_pass (u := sd) (fi := fi) (st := ga) (la := tp - ga) (fun i j hij hjn => vjT_lt hj.2 hij hjn) (fun k hk => (vjT_pos hj.2 hk).1)
  have hbd : ∀ k < n, -1000000 ≤ hg k ∧ hg k ≤ 1000000 := fun k hk => by have := vjT_pos hj.2 hk; omega
  clear hA hd
  by_cases hp : fwL hg sd n fi ga (tp - ga) = []
  · have HP := Lib.hid (fun a cap W hW => passable_any a n cap hg sd fi ga (tp - ga) W hW hn2 hbd (by omega) (decide_eq_false (fun h => hpp.1 h hp)))
    have HH := Lib.hid (fun a cap W hW => highest_any a n cap hg sd fi ga (tp - ga) W hW hn2 hbd (by omega))
    have HX := Lib.hid hp
    clear hp hpp hbd hga htp
    go_enter Try.func24, Try.ntmps24
    go_wp2_with fail
    refine calls_after (HV.out _ (by (repeat' (first | (with_reducible exact Below.refl _ _) | (with_reducible assumption) | (with_reducible refine Below.alloc ?_ ?_ _) | (with_reducible refine Below.drew ?_) | (with_reducible refine below_drewN ?_ _) | (with_reducible refine Below.setCell ?_ ?_ _) | (with_reducible refine below_after ?_ ?_ _) | (with_reducible refine below_set ?_) | (with_reducible refine After.size_le _ ?_) | (with_reducible refine size_alloc_le ?_) | (with_reducible refine size_set_le ?_) | (with_reducible refine size_drewN_le ?_) | go_size)))) ?_
    intro x1
    go_wp2_with fail
    have HB2 : Hid (Below w.heap.size w x1.w) := Lib.hid (by (repeat' (first | (with_reducible exact Below.refl _ _) | (with_reducible assumption) | (with_reducible refine Below.alloc ?_ ?_ _) | (with_reducible refine Below.drew ?_) | (with_reducible refine below_drewN ?_ _) | (with_reducible refine Below.setCell ?_ ?_ _) | (with_reducible refine below_after ?_ ?_ _) | (with_reducible refine below_set ?_) | (with_reducible refine After.size_le _ ?_) | (with_reducible refine size_alloc_le ?_) | (with_reducible refine size_set_le ?_) | (with_reducible refine size_drewN_le ?_) | go_size)))
    refine (HF.out _ (HA.out.on HB2.out)).mono ?_
    rintro e w3 ⟨⟨v3, rfl, ho3⟩, hb3⟩
    have HB3 := Lib.hid (HB2.out.trans (hb3.mono HB2.out.size))
    obtain ⟨a3, cap3, rfl, hj3, _⟩ := jt_row ho3
    have HJ3 := Lib.hid hj3
    clear hb3 hj3 ho3
    go_wp2_with fail
    obtain ⟨W3, hW3⟩ : ∃ W3, w3.alloc (.cells #[.slice a3 n cap3, .int .i64 fi, .int .i64 ga, .int .i64 (tp - ga)] 60) = W3 := ⟨_, rfl⟩
    have B3 := Lib.hid (show Below w.heap.size w W3 from by rw [← hW3]; exact HB3.out.alloc HB3.out.size _)
    have J3 := Lib.hid (show JtAt W3 a3 n hg sd from by rw [← hW3]; exact HJ3.out.on ((Below.refl _ _).alloc (Nat.le_refl _) _))
    have R3 := rtB_new w3 60 (.slice a3 n cap3) fi ga (tp - ga)
    rw [hW3] at R3
    rw [hW3]
    have HR3 := Lib.hid R3
    clear hW3 R3 HB3 HJ3
    refine (HP.out a3 cap3 W3 J3.out).mono ?_
    rintro e w4 ⟨rfl, hb4⟩
    have B4 := Lib.hid (B3.out.trans (hb4.mono B3.out.size))
    have J4 := Lib.hid (J3.out.on hb4)
    have R4 := HR3.out.on hb4
    have g0 := R4.g0
    have g1 := R4.g1
    have g2 := R4.g2
    have g3 := R4.g3
    clear hb4 R4 B3 J3 HR3
    go_wp2_with fail
    refine (HH.out a3 cap3 w4 J4.out).mono ?_
    rintro e w5 ⟨rfl, hb5⟩
    have B5 := Lib.hid (B4.out.trans (hb5.mono B4.out.size))
    clear hb5
    go_wp2
    go_returns
    exact ⟨.inr ⟨HX.out, rfl⟩, B5.out⟩
  · have HP := Lib.hid (fun a cap W hW => passable_any a n cap hg sd fi ga (tp - ga) W hW hn2 hbd (by omega) (decide_eq_true (hpp.2 hp)))
    have HX := Lib.hid hp
    clear hp hpp hbd hga htp
    go_enter Try.func24, Try.ntmps24
    go_wp2_with fail
    refine calls_after (HV.out _ (by (repeat' (first | (with_reducible exact Below.refl _ _) | (with_reducible assumption) | (with_reducible refine Below.alloc ?_ ?_ _) | (with_reducible refine Below.drew ?_) | (with_reducible refine below_drewN ?_ _) | (with_reducible refine Below.setCell ?_ ?_ _) | (with_reducible refine below_after ?_ ?_ _) | (with_reducible refine below_set ?_) | (with_reducible refine After.size_le _ ?_) | (with_reducible refine size_alloc_le ?_) | (with_reducible refine size_set_le ?_) | (with_reducible refine size_drewN_le ?_) | go_size)))) ?_
    intro x1
    go_wp2_with fail
    have HB2 : Hid (Below w.heap.size w x1.w) := Lib.hid (by (repeat' (first | (with_reducible exact Below.refl _ _) | (with_reducible assumption) | (with_reducible refine Below.alloc ?_ ?_ _) | (with_reducible refine Below.drew ?_) | (with_reducible refine below_drewN ?_ _) | (with_reducible refine Below.setCell ?_ ?_ _) | (with_reducible refine below_after ?_ ?_ _) | (with_reducible refine below_set ?_) | (with_reducible refine After.size_le _ ?_) | (with_reducible refine size_alloc_le ?_) | (with_reducible refine size_set_le ?_) | (with_reducible refine size_drewN_le ?_) | go_size)))
    refine (HF.out _ (HA.out.on HB2.out)).mono ?_
    rintro e w3 ⟨⟨v3, rfl, ho3⟩, hb3⟩
    have HB3 := Lib.hid (HB2.out.trans (hb3.mono HB2.out.size))
    obtain ⟨a3, cap3, rfl, hj3, _⟩ := jt_row ho3
    have HJ3 := Lib.hid hj3
    clear hb3 hj3 ho3
    go_wp2_with fail
    obtain ⟨W3, hW3⟩ : ∃ W3, w3.alloc (.cells #[.slice a3 n cap3, .int .i64 fi, .int .i64 ga, .int .i64 (tp - ga)] 60) = W3 := ⟨_, rfl⟩
    have B3 := Lib.hid (show Below w.heap.size w W3 from by rw [← hW3]; exact HB3.out.alloc HB3.out.size _)
    have J3 := Lib.hid (show JtAt W3 a3 n hg sd from by rw [← hW3]; exact HJ3.out.on ((Below.refl _ _).alloc (Nat.le_refl _) _))
    rw [hW3]
    clear hW3 HB3 HJ3
    refine (HP.out a3 cap3 W3 J3.out).mono ?_
    rintro e w4 ⟨rfl, hb4⟩
    have B4 := Lib.hid (B3.out.trans (hb4.mono B3.out.size))
    clear hb4
    go_wp2
    go_returns
    exact ⟨.inl ⟨HX.out, rfl⟩, B4.out⟩
end
end Go.Proofs.Ytbjdojcenflliaa
