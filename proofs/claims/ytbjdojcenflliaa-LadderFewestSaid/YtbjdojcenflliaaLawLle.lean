/- LadderLeast (P3.2): Fewest is right, and no right dogs are fewer; none as few come before it. -/
import Derived.Test.YtbjdojcenflliaaLdz
import Derived.Test.YtbjdojcenflliaaLdq
import Derived.Test.YtbjdojcenflliaaLda
namespace Go.Proofs.Ytbjdojcenflliaa
open Go.RowKit Go.Shelf Go.Maps
attribute [local go_sem] Oper.semAt_some
attribute [local go_sem] After.cell After.frozen After.lt After.le After.ne After.ne' After.set_eq After.size_set After.lt_add

theorem small_any (a : Option Addr) (n cap : Nat) (da : Option Addr) (m dc : Nat) (w : World) {q : Bool} (hq : decide (n ≤ 80 ∧ m ≤ 80) = q) :
    Calls Try.prog 21 #[.slice a n cap, .slice da m dc] w fun e w' => e = .returned (.bool q) ∧ Below w.heap.size w w' := by
  by_cases h1 : n ≤ 80
  · have h1I : (n : Int) ≤ 80 := by omega
    by_cases h2 : m ≤ 80
    · have h2I : (m : Int) ≤ 80 := by omega
      obtain rfl : true = q := (decide_eq_true ⟨h1, h2⟩).symm.trans hq
      clear h1 h2 hq
      go_enter Try.func21, Try.ntmps21
      go_wp2
      go_returns
      exact ⟨rfl, by (repeat' (first | (with_reducible exact Below.refl _ _) | (with_reducible assumption) | (with_reducible refine Below.alloc ?_ ?_ _) | (with_reducible refine Below.drew ?_) | (with_reducible refine below_drewN ?_ _) | (with_reducible refine Below.setCell ?_ ?_ _) | (with_reducible refine below_after ?_ ?_ _) | (with_reducible refine below_set ?_) | (with_reducible refine After.size_le _ ?_) | (with_reducible refine size_alloc_le ?_) | (with_reducible refine size_set_le ?_) | (with_reducible refine size_drewN_le ?_) | go_size))⟩
    · have h2I : ¬ (m : Int) ≤ 80 := by omega
      obtain rfl : false = q := (decide_eq_false fun h => h2 h.2).symm.trans hq
      clear h1 h2 hq
      go_enter Try.func21, Try.ntmps21
      go_wp2
      go_returns
      exact ⟨rfl, by (repeat' (first | (with_reducible exact Below.refl _ _) | (with_reducible assumption) | (with_reducible refine Below.alloc ?_ ?_ _) | (with_reducible refine Below.drew ?_) | (with_reducible refine below_drewN ?_ _) | (with_reducible refine Below.setCell ?_ ?_ _) | (with_reducible refine below_after ?_ ?_ _) | (with_reducible refine below_set ?_) | (with_reducible refine After.size_le _ ?_) | (with_reducible refine size_alloc_le ?_) | (with_reducible refine size_set_le ?_) | (with_reducible refine size_drewN_le ?_) | go_size))⟩
  · have h1I : ¬ (n : Int) ≤ 80 := by omega
    obtain rfl : false = q := (decide_eq_false fun h => h1 h.1).symm.trans hq
    clear h1 hq
    go_enter Try.func21, Try.ntmps21
    go_wp2
    go_returns
    exact ⟨rfl, by (repeat' (first | (with_reducible exact Below.refl _ _) | (with_reducible assumption) | (with_reducible refine Below.alloc ?_ ?_ _) | (with_reducible refine Below.drew ?_) | (with_reducible refine below_drewN ?_ _) | (with_reducible refine Below.setCell ?_ ?_ _) | (with_reducible refine below_after ?_ ?_ _) | (with_reducible refine below_set ?_) | (with_reducible refine After.size_le _ ?_) | (with_reducible refine size_alloc_le ?_) | (with_reducible refine size_set_le ?_) | (with_reducible refine size_drewN_le ?_) | go_size))⟩
theorem Right_b (fi ga tp le lp sg : Int) (a : Option Addr) (n cap : Nat) (hg : Nat → Int) (sd : Nat → Bool) (da : Option Addr) (m dc : Nat) (d : Nat → Int) (w : World) (hA : JtAt w a n hg sd) (hD : DAt w da m d) (hn : n ≤ 9223372036854775807) (hm : m ≤ 1000000) {q : Bool} (hq : decide ((VcP fi ga tp le lp sg ∧ VjP n hg) ∧ RtP hg sd n fi ga (tp - ga) m d) = q) :
    Calls Try.prog 19 #[.agg #[.int .i64 fi, .int .i64 ga, .int .i64 tp, .int .i64 le, .int .i64 lp, .int .i64 sg], .slice a n cap, .slice da m dc] w fun e w' => e = .returned (.bool q) ∧ Below w.heap.size w w' := by
  rw [← hq]; exact Right_any fi ga tp le lp sg a n cap hg sd da m dc d w hA hD hn hm
/-- A climb's box. -/
structure ClB (W : World) (B : Nat) (fi ga tp le lp sg : Int) : Prop where
  lt : B < W.heap.size
  g0 : W.cell? ⟨B, 0, none⟩ = some (.int .i64 fi)
  g1 : W.cell? ⟨B, 1, none⟩ = some (.int .i64 ga)
  g2 : W.cell? ⟨B, 2, none⟩ = some (.int .i64 tp)
  g3 : W.cell? ⟨B, 3, none⟩ = some (.int .i64 le)
  g4 : W.cell? ⟨B, 4, none⟩ = some (.int .i64 lp)
  g5 : W.cell? ⟨B, 5, none⟩ = some (.int .i64 sg)
theorem ClB.on {W W' : World} {B : Nat} {fi ga tp le lp sg : Int} (h : ClB W B fi ga tp le lp sg) (hb : Below W.heap.size W W') : ClB W' B fi ga tp le lp sg :=
  ⟨Nat.lt_of_lt_of_le h.lt hb.size, (hb.cell (p := ⟨B, 0, none⟩) h.lt).trans h.g0, (hb.cell (p := ⟨B, 1, none⟩) h.lt).trans h.g1, (hb.cell (p := ⟨B, 2, none⟩) h.lt).trans h.g2, (hb.cell (p := ⟨B, 3, none⟩) h.lt).trans h.g3, (hb.cell (p := ⟨B, 4, none⟩) h.lt).trans h.g4, (hb.cell (p := ⟨B, 5, none⟩) h.lt).trans h.g5⟩
theorem clB_new (W : World) (T : TypeId) (fi ga tp le lp sg : Int) : ClB (W.alloc (.cells #[.int .i64 fi, .int .i64 ga, .int .i64 tp, .int .i64 le, .int .i64 lp, .int .i64 sg] T)) W.heap.size fi ga tp le lp sg := ⟨by simp, by simp [go_sem], by simp [go_sem], by simp [go_sem], by simp [go_sem], by simp [go_sem], by simp [go_sem]⟩
/-- What LadderLeast needs of the dogs. -/
theorem least_facts {hg : Nat → Int} {sd : Nat → Bool} {n : Nat} {fi st la : Int} {m : Nat} {d : Nat → Int} (hv : VjP n hg) (hr : RtP hg sd n fi st la m d) :
    fwL hg sd n fi st la ≠ [] ∧ (fwL hg sd n fi st la).length ≤ m ∧ RtP hg sd n fi st la (fwL hg sd n fi st la).length (fun k => ((fwL hg sd n fi st la).getD k 0 : Nat)) ∧
      ((fwL hg sd n fi st la).length = m → ∀ j, j < m → (∀ t, t < j → (((fwL hg sd n fi st la).getD t 0 : Nat) : Int) = d t) → (((fwL hg sd n fi st la).getD j 0 : Nat) : Int) ≤ d j) := by
  have hs : ∀ i j, i < j → j < n → hg i < hg j := fun i j hij hj => vjT_lt hv.2 hij hj
  obtain ⟨D, hD, hd⟩ := rtP_ex hr
  have hc : Ch hg sd n st la fi 0 D := (rtP_list hs hd).1 (by rw [hD]; exact hr)
  obtain ⟨l0, l1⟩ := ch_ls hc
  obtain ⟨N0, hN0⟩ : ∃ N0, lsL (ctN hg sd n st la) (upT hg sd n fi 0) = N0 + 1 := ⟨lsL (ctN hg sd n st la) (upT hg sd n fi 0) - 1, by omega⟩
  have e : fwL hg sd n fi st la = fsL hg sd n st (ctN hg sd n st la) (N0 + 1) fi 0 := by unfold fwL; rw [hN0]
  obtain ⟨r1, r2⟩ := fs_right N0 fi 0 hN0
  rw [e]
  refine ⟨fun h => by rw [h] at r2; simp at r2, by omega, (rtP_list hs (fun k _ => rfl)).2 r1, fun hm j hj ht => ?_⟩
  have := fs_first N0 fi 0 D hN0 hc (by omega) j (fun t htj => by
    have h1 := ht t htj
    rw [hd t (by omega)] at h1
    omega) (by omega)
  rw [hd j (by omega)]
  omega
set_option maxRecDepth 100000 in
set_option maxHeartbeats 4000000 in
theorem ladderLeast_ok (fi ga tp le lp sg : Int) (a : Option Addr) (n cap : Nat) (hg : Nat → Int) (sd : Nat → Bool) (da : Option Addr) (m dc : Nat) (d : Nat → Int) (w : World) (hA : JtAt w a n hg sd) (hD : DAt w da m d) (hn : n ≤ 9223372036854775807) :
    Calls Try.prog 5 #[.agg #[.int .i64 fi, .int .i64 ga, .int .i64 tp, .int .i64 le, .int .i64 lp, .int .i64 sg], .slice a n cap, .slice da m dc] w fun e w' => e = .returned (.bool true) ∧ Below w.heap.size w w' := by
  have HA := Lib.hid hA
  have HD := Lib.hid hD
  have HW := Lib.hid awake_any
  clear hA hD
  by_cases hs : n ≤ 80 ∧ m ≤ 80
  · have hm : m ≤ 1000000 := by omega
    have HSm := Lib.hid (fun W => small_any a n cap da m dc W (decide_eq_true hs))
    by_cases hr : (VcP fi ga tp le lp sg ∧ VjP n hg) ∧ RtP hg sd n fi ga (tp - ga) m d
    · have HR := Lib.hid (fun W (hW : Below w.heap.size w W) => Right_b fi ga tp le lp sg a n cap hg sd da m dc d W (HA.out.on hW) (HD.out.on hW) hn hm (decide_eq_true hr))
      obtain ⟨f1, f2, f3, f4⟩ := least_facts hr.1.2 hr.2
      have HF := Lib.hid (fun W (hW : Below w.heap.size w W) => (Fewest_ok fi ga tp le lp sg a n cap hg sd W (HA.out.on hW) hn hr.1.1 hr.1.2).mono (fun e w' h => (⟨by rcases h.1 with ⟨h0, _⟩ | ⟨_, v, h0, h2⟩; exact absurd h0 f1; exact ⟨v, h0, h2⟩, h.2⟩ : (∃ v, e = .returned (.tuple #[v, .int .i64 0]) ∧ NAt w' v (fwL hg sd n fi ga (tp - ga))) ∧ Below W.heap.size W w')))
      have HR2 := Lib.hid (fun (va : Option Addr) (vc : Nat) W (hW : Below w.heap.size w W) (hV : DAt W va (fwL hg sd n fi ga (tp - ga)).length (fun k => ((fwL hg sd n fi ga (tp - ga)).getD k 0 : Nat))) => Right_b fi ga tp le lp sg a n cap hg sd va (fwL hg sd n fi ga (tp - ga)).length vc _ W (HA.out.on hW) hV hn (by omega) (decide_eq_true ⟨hr.1, f3⟩))
      generalize fwL hg sd n fi ga (tp - ga) = L at *
      have F4 := Lib.hid f4
      obtain ⟨hm8, hn8⟩ := hs
      have hLI : (L.length : Int) ≤ (m : Int) := by omega
      clear hr f3 f4
      go_enter Try.func5, Try.ntmps5
      go_wp2_with fail
      obtain ⟨W0, hW0⟩ : ∃ W0, w.alloc (.cells #[.int .i64 fi, .int .i64 ga, .int .i64 tp, .int .i64 le, .int .i64 lp, .int .i64 sg] 23) = W0 := ⟨_, rfl⟩
      have B0 : Hid (Below w.heap.size w W0) := Lib.hid (by rw [← hW0]; (repeat' (first | (with_reducible exact Below.refl _ _) | (with_reducible assumption) | (with_reducible refine Below.alloc ?_ ?_ _) | (with_reducible refine Below.drew ?_) | (with_reducible refine below_drewN ?_ _) | (with_reducible refine Below.setCell ?_ ?_ _) | (with_reducible refine below_after ?_ ?_ _) | (with_reducible refine below_set ?_) | (with_reducible refine After.size_le _ ?_) | (with_reducible refine size_alloc_le ?_) | (with_reducible refine size_set_le ?_) | (with_reducible refine size_drewN_le ?_) | go_size)))
      have C0 : Hid (ClB W0 w.heap.size fi ga tp le lp sg) := Lib.hid (by rw [← hW0]; exact clB_new _ _ _ _ _ _ _ _)
      obtain ⟨k6, k0, k1, k2, k3, k4, k5⟩ := C0.out
      rw [hW0]
      clear hW0
      refine (HSm.out W0).mono ?_
      rintro e w1 ⟨rfl, hb1⟩
      have B1 : Hid (Below w.heap.size w w1) := Lib.hid (B0.out.trans (hb1.mono B0.out.size))
      have C1 : Hid (ClB w1 w.heap.size fi ga tp le lp sg) := Lib.hid (C0.out.on hb1)
      clear hb1 k0 k1 k2 k3 k4 k5 k6
      obtain ⟨k6, k0, k1, k2, k3, k4, k5⟩ := C1.out
      go_wp2_with fail
      refine (HR.out w1 B1.out).mono ?_
      rintro e w2 ⟨rfl, hb2⟩
      have B2 : Hid (Below w.heap.size w w2) := Lib.hid (B1.out.trans (hb2.mono B1.out.size))
      have C2 : Hid (ClB w2 w.heap.size fi ga tp le lp sg) := Lib.hid (C1.out.on hb2)
      clear hb2 k0 k1 k2 k3 k4 k5 k6
      obtain ⟨k6, k0, k1, k2, k3, k4, k5⟩ := C2.out
      go_wp2_with fail
      refine (HF.out w2 B2.out).mono ?_
      rintro e w3 ⟨⟨v, rfl, hN⟩, hb3⟩
      have B3 : Hid (Below w.heap.size w w3) := Lib.hid (B2.out.trans (hb3.mono B2.out.size))
      have C3 : Hid (ClB w3 w.heap.size fi ga tp le lp sg) := Lib.hid (C2.out.on hb3)
      have HN3 := Lib.hid hN
      clear hb3 k0 k1 k2 k3 k4 k5 k6
      obtain ⟨k6, k0, k1, k2, k3, k4, k5⟩ := C3.out
      obtain ⟨va, vc, rfl, hV⟩ := nat_dat hN
      have HV := Lib.hid hV
      clear hN hV HN3
      have hL8 : L.length ≤ 80 := by omega
      go_wp2_with fail
      refine (HR2.out va vc w3 B3.out HV.out).mono ?_
      rintro e w4 ⟨rfl, hb4⟩
      have B4 : Hid (Below w.heap.size w w4) := Lib.hid (B3.out.trans (hb4.mono B3.out.size))
      have C4 : Hid (ClB w4 w.heap.size fi ga tp le lp sg) := Lib.hid (C3.out.on hb4)
      have HV4 := Lib.hid (HV.out.on hb4)
      clear hb4 k0 k1 k2 k3 k4 k5 k6
      obtain ⟨k6, k0, k1, k2, k3, k4, k5⟩ := C4.out
      have HD4 := Lib.hid (HD.out.on B4.out)
      by_cases hlt : L.length < m
      · have hltI : (L.length : Int) < (m : Int) := by omega
        go_wp2_with fail
        refine calls_after (HW.out _) ?_
        intro x3
        go_wp2
        go_ret
        exact ⟨rfl, B4.out.trans (x3.out.mono B4.out.size)⟩
      · obtain rfl : L.length = m := by omega
        have HG := Lib.hid (F4.out rfl)
        clear hlt hLI f2 F4
        go_wp2_with fail
        go_loopw [9] (fun i W => ∃ k : Nat, k ≤ L.length ∧ i = .int .i64 k ∧ Hid (∀ t, t < k → ((L.getD t 0 : Nat) : Int) = d t) ∧ ∃ x : After w4, W = x.w) (fun i _ => L.length - (intOf i).toNat)
        case atStart => exact ⟨0, Nat.zero_le _, rfl, Lib.hid (fun t ht => absurd ht (by omega)), ⟨w4, Below.refl _ _⟩, rfl⟩
        case round =>
          obtain ⟨k, hk, rfl, HT, x, rfl⟩ := hrel
          by_cases hlt : k < L.length
          · have hltI : (k : Int) < (L.length : Int) := by omega
            obtain ⟨b1, o1, rfl, hb1, q1⟩ := HV4.out k hlt
            dsimp only at q1
            obtain ⟨b2, o2, rfl, hb2, q2⟩ := HD4.out k hlt
            have hzx := x.out.size
            have hb13 : b1 < x.w.heap.size := by omega
            have hb23 : b2 < x.w.heap.size := by omega
            have hle := HG.out k hlt HT.out
            have HT2 : Hid (((L.getD k 0 : Nat) : Int) = d k → ∀ t, t < k + 1 → ((L.getD t 0 : Nat) : Int) = d t) := Lib.hid (fun h t ht => by
              by_cases e : t = k
              · subst e; exact h
              · exact HT.out t (by omega))
            generalize ((L.getD k 0 : Nat) : Int) = p at *
            generalize d k = e at *
            clear HG HT
            by_cases he : p = e
            · have HT3 := Lib.hid (HT2.out he)
              have hne : (p != e) = false := by simp [he]
              clear HT2 hle he
              go_wp2
              refine wp_region_after (by kernel_rfl) (by kernel_rfl) ?_; (repeat (first | go_big_quiet_step ((fail)) | (refine wpQuiet_step (fun K hK => ?_); go_simp; first | (refine hK _ ?_; clear hK K) | (apply Exists.intro; refine ⟨fun x => ?_, hK _ ?_⟩; (fail); clear hK K)))); refine wpQuiet_nil ?_
              intro y
              go_wp2
              go_roundw
              case rel => exact ⟨k + 1, by omega, by go_num, HT3, ⟨_, x.out.trans (y.out.mono x.out.size)⟩, rfl⟩
              case measure => simp [intOf]; omega
            · have hne : (p != e) = true := by simp [he]
              have hpe : p < e := by omega
              clear he HT2 hle
              go_wp2
              refine wp_region_after (by kernel_rfl) (by kernel_rfl) ?_; (repeat (first | go_big_quiet_step ((fail)) | (refine wpQuiet_step (fun K hK => ?_); go_simp; first | (refine hK _ ?_; clear hK K) | (apply Exists.intro; refine ⟨fun x => ?_, hK _ ?_⟩; (fail); clear hK K)))); refine wpQuiet_nil ?_
              intro y
              go_wp2
              refine wp_region_after (by kernel_rfl) (by kernel_rfl) ?_; (repeat (first | go_big_quiet_step ((go_at_call 11; exact quiet_after (HW.out _))) | (refine wpQuiet_step (fun K hK => ?_); go_simp; first | (refine hK _ ?_; clear hK K) | (apply Exists.intro; refine ⟨fun x => ?_, hK _ ?_⟩; (go_at_call 11; exact quiet_after (HW.out _)); clear hK K)))); refine wpQuiet_nil ?_
              intro y2
              go_wp2
              go_ret
              exact ⟨rfl, B4.out.trans (((x.out.trans (y.out.mono x.out.size)).trans (y2.out.mono (x.out.trans (y.out.mono x.out.size)).size)).mono B4.out.size)⟩
          · obtain rfl : k = L.length := by omega
            go_wp2_with fail
            refine calls_after (HW.out _) ?_
            intro x3
            go_wp2
            go_ret
            exact ⟨rfl, B4.out.trans ((x.out.trans (x3.out.mono x.out.size)).mono B4.out.size)⟩
    · have HR := Lib.hid (fun W (hW : Below w.heap.size w W) => Right_b fi ga tp le lp sg a n cap hg sd da m dc d W (HA.out.on hW) (HD.out.on hW) hn hm (decide_eq_false hr))
      clear hs hr
      go_enter Try.func5, Try.ntmps5
      go_wp2_with fail
      obtain ⟨W0, hW0⟩ : ∃ W0, w.alloc (.cells #[.int .i64 fi, .int .i64 ga, .int .i64 tp, .int .i64 le, .int .i64 lp, .int .i64 sg] 23) = W0 := ⟨_, rfl⟩
      have B0 : Hid (Below w.heap.size w W0) := Lib.hid (by rw [← hW0]; (repeat' (first | (with_reducible exact Below.refl _ _) | (with_reducible assumption) | (with_reducible refine Below.alloc ?_ ?_ _) | (with_reducible refine Below.drew ?_) | (with_reducible refine below_drewN ?_ _) | (with_reducible refine Below.setCell ?_ ?_ _) | (with_reducible refine below_after ?_ ?_ _) | (with_reducible refine below_set ?_) | (with_reducible refine After.size_le _ ?_) | (with_reducible refine size_alloc_le ?_) | (with_reducible refine size_set_le ?_) | (with_reducible refine size_drewN_le ?_) | go_size)))
      have C0 : Hid (ClB W0 w.heap.size fi ga tp le lp sg) := Lib.hid (by rw [← hW0]; exact clB_new _ _ _ _ _ _ _ _)
      obtain ⟨k6, k0, k1, k2, k3, k4, k5⟩ := C0.out
      rw [hW0]
      clear hW0
      refine (HSm.out W0).mono ?_
      rintro e w1 ⟨rfl, hb1⟩
      have B1 : Hid (Below w.heap.size w w1) := Lib.hid (B0.out.trans (hb1.mono B0.out.size))
      have C1 : Hid (ClB w1 w.heap.size fi ga tp le lp sg) := Lib.hid (C0.out.on hb1)
      clear hb1 k0 k1 k2 k3 k4 k5 k6
      obtain ⟨k6, k0, k1, k2, k3, k4, k5⟩ := C1.out
      go_wp2_with fail
      refine (HR.out w1 B1.out).mono ?_
      rintro e w2 ⟨rfl, hb2⟩
      have B2 : Hid (Below w.heap.size w w2) := Lib.hid (B1.out.trans (hb2.mono B1.out.size))
      have C2 : Hid (ClB w2 w.heap.size fi ga tp le lp sg) := Lib.hid (C1.out.on hb2)
      clear hb2 k0 k1 k2 k3 k4 k5 k6
      obtain ⟨k6, k0, k1, k2, k3, k4, k5⟩ := C2.out
      go_wp2_with fail
      refine calls_after (HW.out _) ?_
      intro x3
      go_wp2
      go_ret
      exact ⟨rfl, B2.out.trans (x3.out.mono B2.out.size)⟩
  · have HSm := Lib.hid (fun W => small_any a n cap da m dc W (decide_eq_false hs))
    clear hs
    go_enter Try.func5, Try.ntmps5
    go_wp2_with fail
    obtain ⟨W0, hW0⟩ : ∃ W0, w.alloc (.cells #[.int .i64 fi, .int .i64 ga, .int .i64 tp, .int .i64 le, .int .i64 lp, .int .i64 sg] 23) = W0 := ⟨_, rfl⟩
    have B0 : Hid (Below w.heap.size w W0) := Lib.hid (by rw [← hW0]; (repeat' (first | (with_reducible exact Below.refl _ _) | (with_reducible assumption) | (with_reducible refine Below.alloc ?_ ?_ _) | (with_reducible refine Below.drew ?_) | (with_reducible refine below_drewN ?_ _) | (with_reducible refine Below.setCell ?_ ?_ _) | (with_reducible refine below_after ?_ ?_ _) | (with_reducible refine below_set ?_) | (with_reducible refine After.size_le _ ?_) | (with_reducible refine size_alloc_le ?_) | (with_reducible refine size_set_le ?_) | (with_reducible refine size_drewN_le ?_) | go_size)))
    have C0 : Hid (ClB W0 w.heap.size fi ga tp le lp sg) := Lib.hid (by rw [← hW0]; exact clB_new _ _ _ _ _ _ _ _)
    obtain ⟨k6, k0, k1, k2, k3, k4, k5⟩ := C0.out
    rw [hW0]
    clear hW0
    refine (HSm.out W0).mono ?_
    rintro e w1 ⟨rfl, hb1⟩
    have B1 : Hid (Below w.heap.size w w1) := Lib.hid (B0.out.trans (hb1.mono B0.out.size))
    have C1 : Hid (ClB w1 w.heap.size fi ga tp le lp sg) := Lib.hid (C0.out.on hb1)
    clear hb1 k0 k1 k2 k3 k4 k5 k6
    obtain ⟨k6, k0, k1, k2, k3, k4, k5⟩ := C1.out
    go_wp2_with fail
    refine calls_after (HW.out _) ?_
    intro x3
    go_wp2
    go_ret
    exact ⟨rfl, B1.out.trans (x3.out.mono B1.out.size)⟩
end Go.Proofs.Ytbjdojcenflliaa
