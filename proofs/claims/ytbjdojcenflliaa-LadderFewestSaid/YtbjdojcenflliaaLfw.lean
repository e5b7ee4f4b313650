/- Fewest and Stuck in the reference. -/
import Derived.Test.YtbjdojcenflliaaLnf
import Derived.Test.YtbjdojcenflliaaLre
import Derived.Test.YtbjdojcenflliaaLawLle
namespace Go.Proofs.Ytbjdojcenflliaa
open Go.RowKit Go.Shelf
attribute [local go_sem] Oper.semAt_some
attribute [local go_sem] After.cell After.frozen After.lt After.le After.ne After.ne' After.set_eq After.size_set After.lt_add

section
variable (fi ga tp le lp sg : Int) (a : Option Addr) (n cap : Nat) (hg : Nat → Int) (sd : Nat → Bool) (w : World) (hA : JtAt w a n hg sd) (hn : n ≤ 9223372036854775807)
include hA hn
set_option maxRecDepth 100000 in
set_option maxHeartbeats 1000000 in
theorem rFewest_bad (hv : ¬ (VcP fi ga tp le lp sg ∧ VjP n hg)) : Calls Try.prog 23 #[.agg #[.int .i64 fi, .int .i64 ga, .int .i64 tp, .int .i64 le, .int .i64 lp, .int .i64 sg], .slice a n cap] w fun e w' => e = .returned (.tuple #[.slice none 0 0, .int .i64 1]) ∧ Below w.heap.size w w' := by
  have HV := Lib.hid (fun W (hW : Below w.heap.size w W) => rbad_any fi ga tp le lp sg a n cap hg sd W (hA.on hW) hn (q := true) (by simp [hv]))
  clear hA
  go_enter Try.func23, Try.ntmps23
  go_wp2_with fail
  refine calls_after (HV.out _ (by (repeat' (first | (with_reducible exact Below.refl _ _) | (with_reducible assumption) | (with_reducible refine Below.alloc ?_ ?_ _) | (with_reducible refine Below.drew ?_) | (with_reducible refine below_drewN ?_ _) | (with_reducible refine Below.setCell ?_ ?_ _) | (with_reducible refine below_after ?_ ?_ _) | (with_reducible refine below_set ?_) | (with_reducible refine After.size_le _ ?_) | (with_reducible refine size_alloc_le ?_) | (with_reducible refine size_set_le ?_) | (with_reducible refine size_drewN_le ?_) | go_size)))) ?_
  intro x1
  go_wp2
  go_returns
  exact ⟨rfl, by (repeat' (first | (with_reducible exact Below.refl _ _) | (with_reducible assumption) | (with_reducible refine Below.alloc ?_ ?_ _) | (with_reducible refine Below.drew ?_) | (with_reducible refine below_drewN ?_ _) | (with_reducible refine Below.setCell ?_ ?_ _) | (with_reducible refine below_after ?_ ?_ _) | (with_reducible refine below_set ?_) | (with_reducible refine After.size_le _ ?_) | (with_reducible refine size_alloc_le ?_) | (with_reducible refine size_set_le ?_) | (with_reducible refine size_drewN_le ?_) | go_size))⟩
set_option maxRecDepth 100000 in
set_option maxHeartbeats 1000000 in
theorem rStuck_bad (hv : ¬ (VcP fi ga tp le lp sg ∧ VjP n hg)) : Calls Try.prog 25 #[.agg #[.int .i64 fi, .int .i64 ga, .int .i64 tp, .int .i64 le, .int .i64 lp, .int .i64 sg], .slice a n cap] w fun e w' => e = .returned (.tuple #[.int .i64 0, .int .i64 1]) ∧ Below w.heap.size w w' := by
  have HV := Lib.hid (fun W (hW : Below w.heap.size w W) => rbad_any fi ga tp le lp sg a n cap hg sd W (hA.on hW) hn (q := true) (by simp [hv]))
  clear hA
  go_enter Try.func25, Try.ntmps25
  go_wp2_with fail
  refine calls_after (HV.out _ (by (repeat' (first | (with_reducible exact Below.refl _ _) | (with_reducible assumption) | (with_reducible refine Below.alloc ?_ ?_ _) | (with_reducible refine Below.drew ?_) | (with_reducible refine below_drewN ?_ _) | (with_reducible refine Below.setCell ?_ ?_ _) | (with_reducible refine below_after ?_ ?_ _) | (with_reducible refine below_set ?_) | (with_reducible refine After.size_le _ ?_) | (with_reducible refine size_alloc_le ?_) | (with_reducible refine size_set_le ?_) | (with_reducible refine size_drewN_le ?_) | go_size)))) ?_
  intro x1
  go_wp2
  go_returns
  exact ⟨rfl, by (repeat' (first | (with_reducible exact Below.refl _ _) | (with_reducible assumption) | (with_reducible refine Below.alloc ?_ ?_ _) | (with_reducible refine Below.drew ?_) | (with_reducible refine below_drewN ?_ _) | (with_reducible refine Below.setCell ?_ ?_ _) | (with_reducible refine below_after ?_ ?_ _) | (with_reducible refine below_set ?_) | (with_reducible refine After.size_le _ ?_) | (with_reducible refine size_alloc_le ?_) | (with_reducible refine size_set_le ?_) | (with_reducible refine size_drewN_le ?_) | go_size))⟩
set_option maxRecDepth 100000 in
set_option maxHeartbeats 1000000 in
theorem rFewest_ok (hc : VcP fi ga tp le lp sg) (hj : VjP n hg) : Calls Try.prog 23 #[.agg #[.int .i64 fi, .int .i64 ga, .int .i64 tp, .int .i64 le, .int .i64 lp, .int .i64 sg], .slice a n cap] w fun e w' => ((fwL hg sd n fi ga (tp - ga) = [] ∧ e = .returned (.tuple #[.slice none 0 0, .int .i64 8])) ∨ (fwL hg sd n fi ga (tp - ga) ≠ [] ∧ ∃ v, e = .returned (.tuple #[v, .int .i64 0]) ∧ NAt w' v (fwL hg sd n fi ga (tp - ga)))) ∧ Below w.heap.size w w' := by
  have HV := Lib.hid (fun W (hW : Below w.heap.size w W) => rbad_any fi ga tp le lp sg a n cap hg sd W (hA.on hW) hn (q := false) (by simp [hc, hj]))
  have HF := Lib.hid (fun W (hW : Below w.heap.size w W) => rfewest_any fi ga tp le lp sg a n cap hg sd W (hA.on hW) hj hc.1 hc.2.1 hc.2.2.1)
  have HR := Lib.hid (fun W (hW : Below w.heap.size w W) => rreach_any fi ga tp le lp sg a n cap hg sd W (hA.on hW) hj)
  clear hA
  obtain ⟨L, hL⟩ : ∃ L, fwL hg sd n fi ga (tp - ga) = L := ⟨_, rfl⟩
  rw [hL] at HF
  have HL := Lib.hid hL
  clear hL
  have hnl := fun (v : Option Addr) (k c : Nat) (w : World) => Lib.run_eql_slice_nil (P := Try.prog) w 25 3 v k c 0 0 Try.underlying25
  go_enter Try.func23, Try.ntmps23
  go_wp2_with fail
  obtain ⟨W0, hW0⟩ : ∃ W0, w.alloc (.cells #[.int .i64 fi, .int .i64 ga, .int .i64 tp, .int .i64 le, .int .i64 lp, .int .i64 sg] 23) = W0 := ⟨_, rfl⟩
  have B0 : Hid (Below w.heap.size w W0) := Lib.hid (by rw [← hW0]; (repeat' (first | (with_reducible exact Below.refl _ _) | (with_reducible assumption) | (with_reducible refine Below.alloc ?_ ?_ _) | (with_reducible refine Below.drew ?_) | (with_reducible refine below_drewN ?_ _) | (with_reducible refine Below.setCell ?_ ?_ _) | (with_reducible refine below_after ?_ ?_ _) | (with_reducible refine below_set ?_) | (with_reducible refine After.size_le _ ?_) | (with_reducible refine size_alloc_le ?_) | (with_reducible refine size_set_le ?_) | (with_reducible refine size_drewN_le ?_) | go_size)))
  have C0 : Hid (ClB W0 w.heap.size fi ga tp le lp sg) := Lib.hid (by rw [← hW0]; exact clB_new _ _ _ _ _ _ _ _)
  obtain ⟨k6, k0, k1, k2, k3, k4, k5⟩ := C0.out
  rw [hW0]
  clear hW0
  refine (HV.out W0 B0.out).mono ?_
  rintro e w1 ⟨rfl, hb1⟩
  have B1 : Hid (Below w.heap.size w w1) := Lib.hid (B0.out.trans (hb1.mono B0.out.size))
  have C1 : Hid (ClB w1 w.heap.size fi ga tp le lp sg) := Lib.hid (C0.out.on hb1)
  clear hb1 k0 k1 k2 k3 k4 k5 k6
  obtain ⟨k6, k0, k1, k2, k3, k4, k5⟩ := C1.out
  go_wp2_with fail
  refine (HF.out w1 B1.out).mono ?_
  rintro e w2 ⟨⟨v, rfl, hN, hnil⟩, hb2⟩
  have B2 : Hid (Below w.heap.size w w2) := Lib.hid (B1.out.trans (hb2.mono B1.out.size))
  have C2 : Hid (ClB w2 w.heap.size fi ga tp le lp sg) := Lib.hid (C1.out.on hb2)
  clear hb2 k0 k1 k2 k3 k4 k5 k6
  obtain ⟨k6, k0, k1, k2, k3, k4, k5⟩ := C2.out
  rcases L with _ | ⟨x, L⟩
  · obtain rfl := hnil rfl
    clear hN hnil
    go_wp2
    go_returns
    exact ⟨.inl ⟨HL.out, rfl⟩, B2.out⟩
  · obtain ⟨vb, vo, vc, rfl⟩ : ∃ vb vo vc, v = .slice (some ⟨vb, vo, none⟩) (L.length + 1) vc := by
      rcases hN with ⟨_, h⟩ | ⟨b, off, cp, e, _⟩
      · cases h
      · exact ⟨b, off, cp, e⟩
    have HNl := Lib.hid hN
    clear hN hnil
    go_wp2
    go_returns
    exact ⟨.inr ⟨by rw [HL.out]; simp, _, rfl, by rw [HL.out]; exact HNl.out⟩, B2.out⟩
set_option maxRecDepth 100000 in
set_option maxHeartbeats 1000000 in
theorem rStuck_ok (hc : VcP fi ga tp le lp sg) (hj : VjP n hg) : Calls Try.prog 25 #[.agg #[.int .i64 fi, .int .i64 ga, .int .i64 tp, .int .i64 le, .int .i64 lp, .int .i64 sg], .slice a n cap] w fun e w' => ((fwL hg sd n fi ga (tp - ga) ≠ [] ∧ e = .returned (.tuple #[.int .i64 0, .int .i64 8])) ∨ (fwL hg sd n fi ga (tp - ga) = [] ∧ e = .returned (.tuple #[.int .i64 (hiS hg sd fi ga n).1, .int .i64 0]))) ∧ Below w.heap.size w w' := by
  have HV := Lib.hid (fun W (hW : Below w.heap.size w W) => rbad_any fi ga tp le lp sg a n cap hg sd W (hA.on hW) hn (q := false) (by simp [hc, hj]))
  have HF := Lib.hid (fun W (hW : Below w.heap.size w W) => rfewest_any fi ga tp le lp sg a n cap hg sd W (hA.on hW) hj hc.1 hc.2.1 hc.2.2.1)
  have HR := Lib.hid (fun W (hW : Below w.heap.size w W) => rreach_any fi ga tp le lp sg a n cap hg sd W (hA.on hW) hj)
  clear hA
  obtain ⟨L, hL⟩ : ∃ L, fwL hg sd n fi ga (tp - ga) = L := ⟨_, rfl⟩
  rw [hL] at HF
  have HL := Lib.hid hL
  clear hL
  have hnl := fun (v : Option Addr) (k c : Nat) (w : World) => Lib.run_eql_slice_nil (P := Try.prog) w 25 3 v k c 0 0 Try.underlying25
  go_enter Try.func25, Try.ntmps25
  go_wp2_with fail
  obtain ⟨W0, hW0⟩ : ∃ W0, w.alloc (.cells #[.int .i64 fi, .int .i64 ga, .int .i64 tp, .int .i64 le, .int .i64 lp, .int .i64 sg] 23) = W0 := ⟨_, rfl⟩
  have B0 : Hid (Below w.heap.size w W0) := Lib.hid (by rw [← hW0]; (repeat' (first | (with_reducible exact Below.refl _ _) | (with_reducible assumption) | (with_reducible refine Below.alloc ?_ ?_ _) | (with_reducible refine Below.drew ?_) | (with_reducible refine below_drewN ?_ _) | (with_reducible refine Below.setCell ?_ ?_ _) | (with_reducible refine below_after ?_ ?_ _) | (with_reducible refine below_set ?_) | (with_reducible refine After.size_le _ ?_) | (with_reducible refine size_alloc_le ?_) | (with_reducible refine size_set_le ?_) | (with_reducible refine size_drewN_le ?_) | go_size)))
  have C0 : Hid (ClB W0 w.heap.size fi ga tp le lp sg) := Lib.hid (by rw [← hW0]; exact clB_new _ _ _ _ _ _ _ _)
  obtain ⟨k6, k0, k1, k2, k3, k4, k5⟩ := C0.out
  rw [hW0]
  clear hW0
  refine (HV.out W0 B0.out).mono ?_
  rintro e w1 ⟨rfl, hb1⟩
  have B1 : Hid (Below w.heap.size w w1) := Lib.hid (B0.out.trans (hb1.mono B0.out.size))
  have C1 : Hid (ClB w1 w.heap.size fi ga tp le lp sg) := Lib.hid (C0.out.on hb1)
  clear hb1 k0 k1 k2 k3 k4 k5 k6
  obtain ⟨k6, k0, k1, k2, k3, k4, k5⟩ := C1.out
  go_wp2_with fail
  refine (HF.out w1 B1.out).mono ?_
  rintro e w2 ⟨⟨v, rfl, hN, hnil⟩, hb2⟩
  have B2 : Hid (Below w.heap.size w w2) := Lib.hid (B1.out.trans (hb2.mono B1.out.size))
  have C2 : Hid (ClB w2 w.heap.size fi ga tp le lp sg) := Lib.hid (C1.out.on hb2)
  clear hb2 k0 k1 k2 k3 k4 k5 k6
  obtain ⟨k6, k0, k1, k2, k3, k4, k5⟩ := C2.out
  rcases L with _ | ⟨x, L⟩
  · obtain rfl := hnil rfl
    clear hN hnil
    go_wp2_with fail
    refine (HR.out w2 B2.out).mono ?_
    rintro e w3 ⟨rfl, hb3⟩
    have B3 : Hid (Below w.heap.size w w3) := Lib.hid (B2.out.trans (hb3.mono B2.out.size))
    clear hb3
    go_wp2
    go_returns
    exact ⟨.inr ⟨HL.out, rfl⟩, B3.out⟩
  · obtain ⟨vb, vo, vc, rfl⟩ : ∃ vb vo vc, v = .slice (some ⟨vb, vo, none⟩) (L.length + 1) vc := by
      rcases hN with ⟨_, h⟩ | ⟨b, off, cp, e, _⟩
      · cases h
      · exact ⟨b, off, cp, e⟩
    have HNl := Lib.hid hN
    clear hN hnil
    go_wp2
    go_returns
    exact ⟨.inl ⟨by rw [HL.out]; simp, rfl⟩, B2.out⟩
end
end Go.Proofs.Ytbjdojcenflliaa
