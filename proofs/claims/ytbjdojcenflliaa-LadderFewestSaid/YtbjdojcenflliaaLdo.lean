/- Fewest in the program. -/
import Derived.Test.YtbjdojcenflliaaLdn
namespace Go.Proofs.Ytbjdojcenflliaa
open Go.RowKit Go.Shelf Go.Maps
attribute [local go_sem] Oper.semAt_some
attribute [local go_sem] After.cell After.frozen After.lt After.le After.ne After.ne' After.set_eq After.size_set After.lt_add

/-- What Fewest answers where all is valid. -/
def FwAns (L : List Nat) (w' : World) (e : Ending) : Prop := (L = [] ∧ e = .returned (.tuple #[.slice none 0 0, .int .i64 8])) ∨ (L ≠ [] ∧ ∃ v, e = .returned (.tuple #[v, .int .i64 0]) ∧ NAt w' v L)
section
variable (fi ga tp le lp sg : Int) (a : Option Addr) (n cap : Nat) (hg : Nat → Int) (sd : Nat → Bool) (w : World) (hA : JtAt w a n hg sd) (hn : n ≤ 9223372036854775807)
include hA hn
set_option maxRecDepth 100000 in
set_option maxHeartbeats 1000000 in
theorem Fewest_bad (hv : ¬ (VcP fi ga tp le lp sg ∧ VjP n hg)) : Calls Try.prog 22 #[.agg #[.int .i64 fi, .int .i64 ga, .int .i64 tp, .int .i64 le, .int .i64 lp, .int .i64 sg], .slice a n cap] w fun e w' => e = .returned (.tuple #[.slice none 0 0, .int .i64 1]) ∧ Below w.heap.size w w' := by
  have HV := Lib.hid (fun W (hW : Below w.heap.size w W) => wvalid_any fi ga tp le lp sg a n cap hg sd W (hA.on hW) hn)
  have hd : (decide (VcP fi ga tp le lp sg) && decide (VjP n hg)) = false := by
    rw [← Bool.not_eq_true, Bool.and_eq_true, decide_eq_true_eq, decide_eq_true_eq]; exact hv
  rw [hd] at HV
  clear hA
  go_enter Try.func22, Try.ntmps22
  go_wp2_with fail
  refine calls_after (HV.out _ (by (repeat' (first | (with_reducible exact Below.refl _ _) | (with_reducible assumption) | (with_reducible refine Below.alloc ?_ ?_ _) | (with_reducible refine Below.drew ?_) | (with_reducible refine below_drewN ?_ _) | (with_reducible refine Below.setCell ?_ ?_ _) | (with_reducible refine below_after ?_ ?_ _) | (with_reducible refine below_set ?_) | (with_reducible refine After.size_le _ ?_) | (with_reducible refine size_alloc_le ?_) | (with_reducible refine size_set_le ?_) | (with_reducible refine size_drewN_le ?_) | go_size)))) ?_
  intro x1
  go_wp2
  go_returns
  exact ⟨rfl, by (repeat' (first | (with_reducible exact Below.refl _ _) | (with_reducible assumption) | (with_reducible refine Below.alloc ?_ ?_ _) | (with_reducible refine Below.drew ?_) | (with_reducible refine below_drewN ?_ _) | (with_reducible refine Below.setCell ?_ ?_ _) | (with_reducible refine below_after ?_ ?_ _) | (with_reducible refine below_set ?_) | (with_reducible refine After.size_le _ ?_) | (with_reducible refine size_alloc_le ?_) | (with_reducible refine size_set_le ?_) | (with_reducible refine size_drewN_le ?_) | go_size))⟩
set_option maxRecDepth 100000 in
set_option maxHeartbeats 1000000 in
theorem Fewest_ok (hc : VcP fi ga tp le lp sg) (hj : VjP n hg) : Calls Try.prog 22 #[.agg #[.int .i64 fi, .int .i64 ga, .int .i64 tp, .int .i64 le, .int .i64 lp, .int .i64 sg], .slice a n cap] w fun e w' => FwAns (fwL hg sd n fi ga (tp - ga)) w' e ∧ Below w.heap.size w w' := by
  have HV := Lib.hid (fun W (hW : Below w.heap.size w W) => wvalid_any fi ga tp le lp sg a n cap hg sd W (hA.on hW) hn)
  have hd : (decide (VcP fi ga tp le lp sg) && decide (VjP n hg)) = true := by simp [hc, hj]
  rw [hd] at HV
  have HA := Lib.hid hA
  have hn2 : n ≤ 1000 := by have := hj.1; omega
  have hga : 1 ≤ ga ∧ ga ≤ 200000 := hc.2.1
  have htp : 1 ≤ tp ∧ tp ≤ 200000 := hc.2.2.1
  have HF := Lib.hid (fun W hW => forDogs_any fi ga tp le lp sg a n cap hg sd W hW hn hn2 hga htp)
  have HW := Lib.hid (fun a cap W hW => fewest_any a n cap hg sd fi ga (tp - ga) W hW hn2 (fun k hk => by have := vjT_pos hj.2 hk; omega) (by omega))
  clear hA hga htp hd
  go_enter Try.func22, Try.ntmps22
  go_wp2_with fail
  refine calls_after (HV.out _ (by (repeat' (first | (with_reducible exact Below.refl _ _) | (with_reducible assumption) | (with_reducible refine Below.alloc ?_ ?_ _) | (with_reducible refine Below.drew ?_) | (with_reducible refine below_drewN ?_ _) | (with_reducible refine Below.setCell ?_ ?_ _) | (with_reducible refine below_after ?_ ?_ _) | (with_reducible refine below_set ?_) | (with_reducible refine After.size_le _ ?_) | (with_reducible refine size_alloc_le ?_) | (with_reducible refine size_set_le ?_) | (with_reducible refine size_drewN_le ?_) | go_size)))) ?_
  intro x1
  go_wp2_with fail
  have HB2 : Hid (Below w.heap.size w x1.w) := Lib.hid (by (repeat' (first | (with_reducible exact Below.refl _ _) | (with_reducible assumption) | (with_reducible refine Below.alloc ?_ ?_ _) | (with_reducible refine Below.drew ?_) | (with_reducible refine below_drewN ?_ _) | (with_reducible refine Below.setCell ?_ ?_ _) | (with_reducible refine below_after ?_ ?_ _) | (with_reducible refine below_set ?_) | (with_reducible refine After.size_le _ ?_) | (with_reducible refine size_alloc_le ?_) | (with_reducible refine size_set_le ?_) | (with_reducible refine size_drewN_le ?_) | go_size)))
  refine (HF.out _ (HA.out.on HB2.out)).mono ?_
  rintro e w3 ⟨⟨v3, rfl, ho3⟩, hb3⟩
  have HB3 := Lib.hid (HB2.out.trans (hb3.mono HB2.out.size))
  obtain ⟨a3, cap3, rfl, hj3, _⟩ := jt_row ho3
  have HJ3 := Lib.hid hj3
  clear hb3 hj3 ho3
  go_wp2_with fail
  refine (HW.out a3 cap3 w3 HJ3.out).mono ?_
  rintro e w4 ⟨⟨v, rfl, hN⟩, hb4⟩
  have HB4 := Lib.hid (HB3.out.trans (hb4.mono HB3.out.size))
  clear hb4 HB3 HB2 HV HF HW HA HJ3
  obtain ⟨L, hL⟩ : ∃ L, fwL hg sd n fi ga (tp - ga) = L := ⟨_, rfl⟩
  rw [hL] at hN
  have HL := Lib.hid hL
  clear hL
  rcases L with _ | ⟨k, L⟩
  · have he : ∃ xa xc, v = .slice xa 0 xc := by
      rcases hN with ⟨rfl, _⟩ | ⟨b, off, cp, rfl, _⟩ <;> exact ⟨_, _, rfl⟩
    obtain ⟨xa, xc, rfl⟩ := he
    clear hN
    go_wp2
    go_returns
    exact ⟨.inl ⟨HL.out, rfl⟩, HB4.out⟩
  · have he : ∃ xa xc, v = .slice xa (L.length + 1) xc := by
      rcases hN with ⟨rfl, h⟩ | ⟨b, off, cp, rfl, _⟩
      · cases h
      · exact ⟨_, _, rfl⟩
    obtain ⟨xa, xc, rfl⟩ := he
    have HN := Lib.hid hN
    clear hN
    go_wp2
    go_returns
    exact ⟨.inr ⟨by rw [HL.out]; simp, _, rfl, by rw [HL.out]; exact HN.out⟩, HB4.out⟩
end
end Go.Proofs.Ytbjdojcenflliaa
