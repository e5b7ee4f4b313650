/- WindLists: the law's walk. -/
import Derived.Test.YtlnlgboeohfpdaaDoorLawWst
import Derived.Test.YtlnlgboeohfpdaaDoorWdz
import Derived.Test.YtlnlgboeohfpdaaDoorWdh
import Derived.Test.YtlnlgboeohfpdaaDoorWdt
import Derived.Test.YtlnlgboeohfpdaaDoorWdu
namespace Go.Proofs.YtlnlgboeohfpdaaDoor
open Go.RowKit
attribute [local go_sem] After.cell After.frozen After.lt After.le After.ne After.ne' After.set_eq After.size_set After.lt_add

theorem IRow.in {W : World} {B : Nat} {v : Value} {n : Nat} {h : Nat → Int} (hr : IRow W B v n h) : ∃ a cap, v = .slice a n cap ∧ IAt W a n h := by
  obtain ⟨a, cap, rfl⟩ := ownsR_shape hr
  refine ⟨a, cap, rfl, fun i hi => ?_⟩
  obtain ⟨g, c, e⟩ := Go.Joins.ownsRow_form hr (by omega)
  cases e
  refine ⟨g, 0, rfl, (hr.lt g rfl).2, ?_⟩
  have h' : W.ownsRow B 3 1 (.slice (some ⟨g, 0, none⟩) n cap) n (rxs h n) := hr
  rw [Nat.zero_add, h'.cellAt _ (by omega)]
  exact rxs_get hi
set_option maxRecDepth 100000 in
set_option maxHeartbeats 4000000 in
theorem windLists_any (a : Option Addr) (n cap : Nat) (f : Nat → Int) (a' : Option Addr) (m cap' : Nat) (g : Nat → Int) (ar : Option Addr) (k capr : Nat) (rs rg rc : Nat → Int) (fr to : Int) (w : World)
    (hA : IAt w a n f) (hA' : IAt w a' m g) (hR : RsAt w ar k rs rg rc) (hnc : n ≤ cap) (hcap : n ≤ 9223372036854775807) (hcap' : m ≤ 9223372036854775807) (hk : k ≤ 9223372036854775807) (hS : Stw w) :
    Calls Tryd.prog 7 #[.slice a n cap, .slice a' m cap', .slice ar k capr, .int .i64 fr, .int .i64 to] w fun e w' => e = .returned (.bool true) ∧ Below w.heap.size w w' := by
  have HAw := Lib.hid (fun W (hW : Below w.heap.size w W) => awake_any W (hS.on hW))
  have HM1 := Lib.hid (fun W => many_any a n cap W)
  have HM2 := Lib.hid (fun W => many_any a' m cap' W)
  have P1 := Lib.hid (fun W (hW : Below w.heap.size w W) => strictest_say a n cap f ar k capr rs rg rc W (hA.on hW) (hR.on hW) hk)
  have R1 := Lib.hid (fun W (hW : Below w.heap.size w W) => rstrictest_say a n cap f ar k capr rs rg rc W (hA.on hW) (hR.on hW) hcap hk)
  have P2 := Lib.hid (fun W (hW : Below w.heap.size w W) => highest_say a n cap f fr to W (hA.on hW) hnc)
  have R2 := Lib.hid (fun W (hW : Below w.heap.size w W) => rhighest_say a n cap f fr to W (hA.on hW) hcap)
  have P3 := Lib.hid (fun W (hW : Below w.heap.size w W) => missing_say a n cap f W (hA.on hW))
  have R3 := Lib.hid (fun W (hW : Below w.heap.size w W) => rmissing_say a n cap f W (hA.on hW) hcap)
  have P4 := Lib.hid (fun W (hW : Below w.heap.size w W) => joined_say a n cap f a' m cap' g W (hA.on hW) (hA'.on hW))
  have R4 := Lib.hid (fun W (hW : Below w.heap.size w W) => rjoined_say a n cap f a' m cap' g W (hA.on hW) (hA'.on hW) hcap hcap')
  have hml : (msL n f).length ≤ 2000 := by
    unfold msL
    split
    · rename_i h
      exact Nat.le_trans (spS_len _) (Nat.le_trans (fl_len _ _) (of_decide_eq_true h).1)
    · simp
  have hjl : jnL n f m g ≤ 2000 := by
    unfold jnL
    by_cases h : GoodG n f
    · have h1 := h.1
      by_cases h2 : jnE n f m g = 0
      · rw [if_pos h2]; exact h1
      · rw [if_neg h2]; omega
    · have e : jnE n f m g = 1 := by unfold jnE; rw [decide_eq_false h]; rfl
      rw [e, if_neg (by decide)]; omega
  clear hA hA' hR hS
  generalize decide (Many n) = m1 at *
  generalize decide (Many m) = m2 at *
  generalize sE n f k rs rg rc = e1 at *
  generalize sN n f k rs rg rc = n1 at *
  generalize hgN n f fr to = n2 at *
  generalize hgE n f fr to = e2 at *
  generalize msL n f = L at *
  generalize msE n f = e3 at *
  generalize jnL n f m g = J at *
  generalize jnE n f m g = e4 at *
  generalize jnF f g = jf at *
  cases m1
  case true =>
    go_enter Tryd.func7, Tryd.ntmps7
    go_wp2_with fail
    refine calls_after (HAw.out _ (by (repeat' (first | (with_reducible exact Below.refl _ _) | (with_reducible assumption) | (with_reducible refine Below.alloc ?_ ?_ _) | (with_reducible refine Below.drew ?_) | (with_reducible refine below_drewN ?_ _) | (with_reducible refine Below.setCell ?_ ?_ _) | (with_reducible refine below_after ?_ ?_ _) | (with_reducible refine below_set ?_) | (with_reducible refine After.size_le _ ?_) | (with_reducible refine size_alloc_le ?_) | (with_reducible refine size_set_le ?_) | (with_reducible refine size_drewN_le ?_) | go_size)))) ?_
    intro x1
    go_wp2_with (go_at_call 11; (first | (with_reducible refine (HM1.out _).mono ?_) | (with_reducible refine (HM2.out _).mono ?_)); rintro e w1 ⟨rfl, rfl⟩)
    go_ret
    exact ⟨rfl, by (repeat' (first | (with_reducible exact Below.refl _ _) | (with_reducible assumption) | (with_reducible refine Below.alloc ?_ ?_ _) | (with_reducible refine Below.drew ?_) | (with_reducible refine below_drewN ?_ _) | (with_reducible refine Below.setCell ?_ ?_ _) | (with_reducible refine below_after ?_ ?_ _) | (with_reducible refine below_set ?_) | (with_reducible refine After.size_le _ ?_) | (with_reducible refine size_alloc_le ?_) | (with_reducible refine size_set_le ?_) | (with_reducible refine size_drewN_le ?_) | go_size))⟩
  cases m2
  case true =>
    go_enter Tryd.func7, Tryd.ntmps7
    go_wp2_with fail
    refine calls_after (HAw.out _ (by (repeat' (first | (with_reducible exact Below.refl _ _) | (with_reducible assumption) | (with_reducible refine Below.alloc ?_ ?_ _) | (with_reducible refine Below.drew ?_) | (with_reducible refine below_drewN ?_ _) | (with_reducible refine Below.setCell ?_ ?_ _) | (with_reducible refine below_after ?_ ?_ _) | (with_reducible refine below_set ?_) | (with_reducible refine After.size_le _ ?_) | (with_reducible refine size_alloc_le ?_) | (with_reducible refine size_set_le ?_) | (with_reducible refine size_drewN_le ?_) | go_size)))) ?_
    intro x1
    go_wp2_with (go_at_call 11; (first | (with_reducible refine (HM1.out _).mono ?_) | (with_reducible refine (HM2.out _).mono ?_)); rintro e w1 ⟨rfl, rfl⟩)
    go_ret
    exact ⟨rfl, by (repeat' (first | (with_reducible exact Below.refl _ _) | (with_reducible assumption) | (with_reducible refine Below.alloc ?_ ?_ _) | (with_reducible refine Below.drew ?_) | (with_reducible refine below_drewN ?_ _) | (with_reducible refine Below.setCell ?_ ?_ _) | (with_reducible refine below_after ?_ ?_ _) | (with_reducible refine below_set ?_) | (with_reducible refine After.size_le _ ?_) | (with_reducible refine size_alloc_le ?_) | (with_reducible refine size_set_le ?_) | (with_reducible refine size_drewN_le ?_) | go_size))⟩
  by_cases h30 : (30 : Int) < (k : Int)
  · have h30d : decide ((30 : Int) < (k : Int)) = true := decide_eq_true h30
    go_enter Tryd.func7, Tryd.ntmps7
    go_wp2_with fail
    refine calls_after (HAw.out _ (by (repeat' (first | (with_reducible exact Below.refl _ _) | (with_reducible assumption) | (with_reducible refine Below.alloc ?_ ?_ _) | (with_reducible refine Below.drew ?_) | (with_reducible refine below_drewN ?_ _) | (with_reducible refine Below.setCell ?_ ?_ _) | (with_reducible refine below_after ?_ ?_ _) | (with_reducible refine below_set ?_) | (with_reducible refine After.size_le _ ?_) | (with_reducible refine size_alloc_le ?_) | (with_reducible refine size_set_le ?_) | (with_reducible refine size_drewN_le ?_) | go_size)))) ?_
    intro x1
    go_wp2_with (go_at_call 11; (first | (with_reducible refine (HM1.out _).mono ?_) | (with_reducible refine (HM2.out _).mono ?_)); rintro e w1 ⟨rfl, rfl⟩)
    go_ret
    exact ⟨rfl, by (repeat' (first | (with_reducible exact Below.refl _ _) | (with_reducible assumption) | (with_reducible refine Below.alloc ?_ ?_ _) | (with_reducible refine Below.drew ?_) | (with_reducible refine below_drewN ?_ _) | (with_reducible refine Below.setCell ?_ ?_ _) | (with_reducible refine below_after ?_ ?_ _) | (with_reducible refine below_set ?_) | (with_reducible refine After.size_le _ ?_) | (with_reducible refine size_alloc_le ?_) | (with_reducible refine size_set_le ?_) | (with_reducible refine size_drewN_le ?_) | go_size))⟩
  have h30d : decide ((30 : Int) < (k : Int)) = false := decide_eq_false h30
  go_enter Tryd.func7, Tryd.ntmps7
  go_wp2_with fail
  refine calls_after (HAw.out _ (by (repeat' (first | (with_reducible exact Below.refl _ _) | (with_reducible assumption) | (with_reducible refine Below.alloc ?_ ?_ _) | (with_reducible refine Below.drew ?_) | (with_reducible refine below_drewN ?_ _) | (with_reducible refine Below.setCell ?_ ?_ _) | (with_reducible refine below_after ?_ ?_ _) | (with_reducible refine below_set ?_) | (with_reducible refine After.size_le _ ?_) | (with_reducible refine size_alloc_le ?_) | (with_reducible refine size_set_le ?_) | (with_reducible refine size_drewN_le ?_) | go_size)))) ?_
  intro x1
  go_wp2_with (go_at_call 11; (first | (with_reducible refine (HM1.out _).mono ?_) | (with_reducible refine (HM2.out _).mono ?_)); rintro e w1 ⟨rfl, rfl⟩)
  refine calls_after2 (P1.out _ (by (repeat' (first | (with_reducible exact Below.refl _ _) | (with_reducible assumption) | (with_reducible refine Below.alloc ?_ ?_ _) | (with_reducible refine Below.drew ?_) | (with_reducible refine below_drewN ?_ _) | (with_reducible refine Below.setCell ?_ ?_ _) | (with_reducible refine below_after ?_ ?_ _) | (with_reducible refine below_set ?_) | (with_reducible refine After.size_le _ ?_) | (with_reducible refine size_alloc_le ?_) | (with_reducible refine size_set_le ?_) | (with_reducible refine size_drewN_le ?_) | go_size)))) ?_
  intro x2
  go_wp2_with fail
  refine calls_after2 (R1.out _ (by (repeat' (first | (with_reducible exact Below.refl _ _) | (with_reducible assumption) | (with_reducible refine Below.alloc ?_ ?_ _) | (with_reducible refine Below.drew ?_) | (with_reducible refine below_drewN ?_ _) | (with_reducible refine Below.setCell ?_ ?_ _) | (with_reducible refine below_after ?_ ?_ _) | (with_reducible refine below_set ?_) | (with_reducible refine After.size_le _ ?_) | (with_reducible refine size_alloc_le ?_) | (with_reducible refine size_set_le ?_) | (with_reducible refine size_drewN_le ?_) | go_size)))) ?_
  intro x3
  clear P1 R1 HM1 HM2 HAw
  go_wp2_with fail
  refine calls_after2 (P2.out _ (by (repeat' (first | (with_reducible exact Below.refl _ _) | (with_reducible assumption) | (with_reducible refine Below.alloc ?_ ?_ _) | (with_reducible refine Below.drew ?_) | (with_reducible refine below_drewN ?_ _) | (with_reducible refine Below.setCell ?_ ?_ _) | (with_reducible refine below_after ?_ ?_ _) | (with_reducible refine below_set ?_) | (with_reducible refine After.size_le _ ?_) | (with_reducible refine size_alloc_le ?_) | (with_reducible refine size_set_le ?_) | (with_reducible refine size_drewN_le ?_) | go_size)))) ?_
  intro x4
  go_wp2_with fail
  refine calls_after2 (R2.out _ (by (repeat' (first | (with_reducible exact Below.refl _ _) | (with_reducible assumption) | (with_reducible refine Below.alloc ?_ ?_ _) | (with_reducible refine Below.drew ?_) | (with_reducible refine below_drewN ?_ _) | (with_reducible refine Below.setCell ?_ ?_ _) | (with_reducible refine below_after ?_ ?_ _) | (with_reducible refine below_set ?_) | (with_reducible refine After.size_le _ ?_) | (with_reducible refine size_alloc_le ?_) | (with_reducible refine size_set_le ?_) | (with_reducible refine size_drewN_le ?_) | go_size)))) ?_
  intro x5
  clear P2 R2
  have hB5 := Lib.hid (show Below w.heap.size w x5.w by (repeat' (first | (with_reducible exact Below.refl _ _) | (with_reducible assumption) | (with_reducible refine Below.alloc ?_ ?_ _) | (with_reducible refine Below.drew ?_) | (with_reducible refine below_drewN ?_ _) | (with_reducible refine Below.setCell ?_ ?_ _) | (with_reducible refine below_after ?_ ?_ _) | (with_reducible refine below_set ?_) | (with_reducible refine After.size_le _ ?_) | (with_reducible refine size_alloc_le ?_) | (with_reducible refine size_set_le ?_) | (with_reducible refine size_drewN_le ?_) | go_size)))
  go_wp2_with fail
  refine (P3.out _ hB5.out).mono ?_
  rintro e w6 ⟨⟨v, rfl, hv⟩, hb6⟩
  have hv6 := Lib.hid hv.in
  have hB6 := Lib.hid (hB5.out.trans (hb6.mono hB5.out.size))
  clear hv hb6 hB5 P3
  go_wp2_with fail
  refine (R3.out _ hB6.out).mono ?_
  rintro e w7 ⟨⟨v', rfl, hv'⟩, hb7⟩
  have hv7' := Lib.hid hv'.in
  have hv7 := Lib.hid (hv6.out.on hb7)
  have hB7 := Lib.hid (hB6.out.trans (hb7.mono hB6.out.size))
  have HSm := Lib.hid (sameSpans_any hv7.out hv7'.out (by omega))
  clear hv' hb7 hB6 R3 hv6
  go_wp2_with fail
  refine HSm.out.mono ?_
  rintro e w8 ⟨rfl, hb8⟩
  have hB8 := Lib.hid (hB7.out.trans (hb8.mono hB7.out.size))
  clear hb8 hB7 HSm hv7 hv7'
  go_wp2_with fail
  refine (P4.out _ hB8.out).mono ?_
  rintro e w9 ⟨⟨u, rfl, hu⟩, hb9⟩
  obtain ⟨ua, uc, rfl, hui⟩ := hu.in
  have hB9 := Lib.hid (hB8.out.trans (hb9.mono hB8.out.size))
  have hu9 := Lib.hid hui
  clear hu hb9 hB8 P4 hui
  go_wp2_with fail
  refine (R4.out _ hB9.out).mono ?_
  rintro e w10 ⟨⟨u', rfl, hu'⟩, hb10⟩
  obtain ⟨ua', uc', rfl, hui'⟩ := hu'.in
  have hB10 := Lib.hid (hB9.out.trans (hb10.mono hB9.out.size))
  have HSi := Lib.hid (sameInts_at ua ua' J uc uc' jf w10 (hu9.out.on hb10) hui' (by omega))
  clear hu' hb10 hB9 R4 hui' hu9
  go_wp2_with fail
  refine HSi.out.mono ?_
  rintro e w11 ⟨rfl, hb11⟩
  have hB11 := Lib.hid (hB10.out.trans (hb11.mono hB10.out.size))
  clear hb11 hB10 HSi
  go_wp2
  go_ret
  exact ⟨rfl, hB11.out⟩
end Go.Proofs.YtlnlgboeohfpdaaDoor
