/- The reference's Weakest. -/
import Derived.Test.YtciicijindanlaaWeakm
namespace Go.Proofs.Ytciicijindanlaa
open Go.RowKit
attribute [local go_sem] After.cell After.frozen After.lt After.le After.ne After.ne' After.set_eq After.size_set After.lt_add

set_option maxRecDepth 100000 in
set_option maxHeartbeats 4000000 in
theorem rweakest_any (n m : Nat) (R : Nat → Int × Int × Int) (U : Nat → List (Int × Int)) (v u : Value) (day : Int) (w : World) (hv : Rps w w.heap.size v n R) (hu : Uss w w.heap.size u m U) (hl : ∀ i, i < m → (U i).length ≤ 100) :
    Calls Try.prog 59 #[v, u, .int .i64 day] w fun e w' => e = .returned (.tuple #[.int .i64 (wkV n m R U day), .int .i64 (wkE n m R U day)]) ∧ Below w.heap.size w w' := by
  obtain ⟨a, cap, rfl, hn, HR0⟩ := hv
  obtain ⟨a', cap', rfl, hm, HU0⟩ := hu
  have HR := Lib.hid HR0
  have HU := Lib.hid HU0
  have HL := Lib.hid hl
  clear HR0 HU0 hl
  by_cases hB : Btw n 1 20
  · have HT : Hid (∀ W, _) := fun W => within_t n 1 20 W hB
    by_cases hnm : m = n
    · subst hnm
      have d0 : ((m : Int) == (m : Int)) = true := by simp
      obtain ⟨n1, n2⟩ := hB
      go_enter Try.func59, Try.ntmps59
      go_wp2_with (go_at_call 63; refine (HT.out _).mono ?_; rintro e w1 ⟨rfl, rfl⟩)
      go_loopw [8] (fun i wr => ∃ k : Nat, k ≤ m ∧ i = .int .i64 k ∧ Hid (∀ j, j < k → rG R U j) ∧ ∃ x : After w, wr = x.w) (fun i _ => m - (intOf i).toNat)
      case atStart => exact ⟨0, by omega, rfl, Lib.hid (fun j hj => absurd hj (by omega)), ⟨w, Below.refl _ _⟩, rfl⟩
      case round =>
        obtain ⟨k, hk, rfl, HG, x, rfl⟩ := hrel
        have hsx := x.out.size
        by_cases hlt : k < m
        · obtain ⟨b, off, rfl, hb, hc⟩ := HR.out (by omega)
          obtain ⟨b', off', rfl, hb', hc'⟩ := HU.out (by omega)
          obtain ⟨c1, c2, c3⟩ := hc k hlt
          obtain ⟨uv, c4, hp⟩ := hc' k hlt
          have HV : Hid (∀ W, _) := fun W => rvalidRope_any (R k).1 (R k).2.1 (R k).2.2 W
          have HW : Hid (∀ W, Below w.heap.size w W → _) := fun W hW => rvalidUses_v uv (U k) W (prc_on hp hW) (by have := HL.out k hlt; omega) _ rfl
          obtain ⟨au, cu, rfl⟩ := prc_slice hp
          have hbx : b < x.w.heap.size := by omega
          have hbx' : b' < x.w.heap.size := by omega
          by_cases hg : rG R U k
          · rw [decide_eq_true hg.1] at HV
            rw [decide_eq_true hg.2] at HW
            have HG2 : Hid (∀ j, j < k + 1 → rG R U j) := fun j hj => by
              rcases Nat.lt_or_ge j k with h | h
              · exact HG.out j h
              · obtain rfl : j = k := by omega
                exact hg
            clear hc hc' hp hg
            generalize (U k).length = lu at *
            generalize R k = r at *
            obtain ⟨s, d, l⟩ := r
            dsimp only at *
            go_wp2_with fail
            refine calls_after2 (HV.out _) ?_
            intro y
            have hsy := y.out.size
            have hby' : b' < y.w.heap.size := by omega
            go_wp2_with fail
            refine calls_after2 (HW.out _ (by (repeat' (first | (with_reducible exact Below.refl _ _) | (with_reducible assumption) | (with_reducible refine Below.alloc ?_ ?_ _) | (with_reducible refine Below.drew ?_) | (with_reducible refine below_drewN ?_ _) | (with_reducible refine Below.setCell ?_ ?_ _) | (with_reducible refine below_after ?_ ?_ _) | (with_reducible refine below_set ?_) | (with_reducible refine After.size_le _ ?_) | (with_reducible refine size_alloc_le ?_) | (with_reducible refine size_set_le ?_) | (with_reducible refine size_drewN_le ?_) | go_size)))) ?_
            intro z
            go_wp2
            go_roundw
            case rel => exact ⟨k + 1, by omega, by go_num, HG2, z, rfl⟩
            case measure => simp [intOf]; omega
          · have EE := Lib.hid (wk_bad (day := day) ⟨n1, n2⟩ hlt hg)
            by_cases hgr : GoodR (R k).1 (R k).2.1 (R k).2.2
            · rw [decide_eq_true hgr] at HV
              rw [decide_eq_false (fun h => hg ⟨hgr, h⟩)] at HW
              clear hc hc' hp hg hgr
              generalize (U k).length = lu at *
              generalize R k = r at *
              obtain ⟨s, d, l⟩ := r
              dsimp only at *
              go_wp2_with fail
              refine calls_after2 (HV.out _) ?_
              intro y
              have hsy := y.out.size
              have hby' : b' < y.w.heap.size := by omega
              go_wp2_with fail
              refine calls_after2 (HW.out _ (by (repeat' (first | (with_reducible exact Below.refl _ _) | (with_reducible assumption) | (with_reducible refine Below.alloc ?_ ?_ _) | (with_reducible refine Below.drew ?_) | (with_reducible refine below_drewN ?_ _) | (with_reducible refine Below.setCell ?_ ?_ _) | (with_reducible refine below_after ?_ ?_ _) | (with_reducible refine below_set ?_) | (with_reducible refine After.size_le _ ?_) | (with_reducible refine size_alloc_le ?_) | (with_reducible refine size_set_le ?_) | (with_reducible refine size_drewN_le ?_) | go_size)))) ?_
              intro z
              go_wp2
              go_returns
              exact ⟨by rw [EE.out.1, EE.out.2]; rfl, by (repeat' (first | (with_reducible exact Below.refl _ _) | (with_reducible assumption) | (with_reducible refine Below.alloc ?_ ?_ _) | (with_reducible refine Below.drew ?_) | (with_reducible refine below_drewN ?_ _) | (with_reducible refine Below.setCell ?_ ?_ _) | (with_reducible refine below_after ?_ ?_ _) | (with_reducible refine below_set ?_) | (with_reducible refine After.size_le _ ?_) | (with_reducible refine size_alloc_le ?_) | (with_reducible refine size_set_le ?_) | (with_reducible refine size_drewN_le ?_) | go_size))⟩
            · rw [decide_eq_false hgr] at HV
              clear hc hc' hp hg hgr
              generalize (U k).length = lu at *
              generalize R k = r at *
              obtain ⟨s, d, l⟩ := r
              dsimp only at *
              go_wp2_with fail
              refine calls_after2 (HV.out _) ?_
              intro y
              go_wp2
              go_returns
              exact ⟨by rw [EE.out.1, EE.out.2]; rfl, by (repeat' (first | (with_reducible exact Below.refl _ _) | (with_reducible assumption) | (with_reducible refine Below.alloc ?_ ?_ _) | (with_reducible refine Below.drew ?_) | (with_reducible refine below_drewN ?_ _) | (with_reducible refine Below.setCell ?_ ?_ _) | (with_reducible refine below_after ?_ ?_ _) | (with_reducible refine below_set ?_) | (with_reducible refine After.size_le _ ?_) | (with_reducible refine size_alloc_le ?_) | (with_reducible refine size_set_le ?_) | (with_reducible refine size_drewN_le ?_) | go_size))⟩
        · obtain rfl : k = m := by omega
          by_cases hD : Dy day
          · have HD : Hid (∀ W, _) := fun W => within_t day 0 100000 W hD
            have EE := Lib.hid (wk_ok ⟨n1, n2⟩ HG.out hD)
            have HB : Hid (∀ j, j < k → (0 ≤ lft (R j).1 (R j).2.1 day (U j) ∧ lft (R j).1 (R j).2.1 day (U j) ≤ 1000) ∧ 0 ≤ (R j).1 * lft (R j).1 (R j).2.1 day (U j) ∧ (R j).1 * lft (R j).1 (R j).2.1 day (U j) ≤ 1000000000) := fun j hj => by
              obtain ⟨x1, x2⟩ := lft_bd (s := (R j).1) (HG.out j hj).1.1.1 (HG.out j hj).2 (HG.out j hj).1.2.1 hD
              exact ⟨⟨x1, x2⟩, sl_bd (HG.out j hj).1.1 x1 x2⟩
            have HS : Hid (∀ j, j < k → ∀ (uv : Value) (W : World), Prc W W.heap.size uv (U j) → Calls Try.prog 83 #[.agg #[.int .i64 (R j).1, .int .i64 (R j).2.1, .int .i64 (R j).2.2], uv, .int .i64 day] W fun e w' => e = .returned (.int .i64 (lft (R j).1 (R j).2.1 day (U j))) ∧ Below W.heap.size W w') := fun j hj uv W hp => rleft_any (R j).1 (R j).2.1 (R j).2.2 day uv (U j) W hp (HG.out j hj) hD
            have HI : Hid (∀ j, wkI (wS R U day) (j + 1) = if j = 0 ∨ wS R U day j < wS R U day (wkI (wS R U day) j) then j else wkI (wS R U day) j) := fun j => rfl
            have HF : Hid (∀ j, wS R U day j = if (R j).2.2 ≤ lft (R j).1 (R j).2.1 day (U j) then (R j).1 * lft (R j).1 (R j).2.1 day (U j) / 5000 else 0) := fun j => rfl
            clear HG hD
            generalize wS R U day = S at *
            go_wp2_with (go_at_call 63; refine (HD.out _).mono ?_; rintro e w1 ⟨rfl, rfl⟩)
            go_loopw [9, 10, 11, 12, 13] (fun bi ls i _ _ wr => ∃ j : Nat, j ≤ k ∧ i = .int .i64 j ∧ bi = .int .i64 (wkI S j : Nat) ∧ ls = .int .i64 (if j = 0 then 0 else S (wkI S j)) ∧ ∃ z : After w, wr = z.w) (fun _ _ i _ _ _ => k - (intOf i).toNat)
            case atStart => exact ⟨0, by omega, rfl, rfl, rfl, x, rfl⟩
            case round =>
              obtain ⟨j, hj, rfl, rfl, rfl, z, rfl⟩ := hrel
              have hsz := z.out.size
              by_cases hlt : j < k
              · obtain ⟨b, off, rfl, hb, hc⟩ := HR.out (by omega)
                obtain ⟨b', off', rfl, hb', hc'⟩ := HU.out (by omega)
                obtain ⟨c1, c2, c3⟩ := hc j hlt
                obtain ⟨uv, c4, hp⟩ := hc' j hlt
                have HV : Hid (∀ W, Below w.heap.size w W → _) := fun W hW => HS.out j hlt uv W (prc_on hp hW)
                obtain ⟨au, cu, rfl⟩ := prc_slice hp
                have hbx : b < z.w.heap.size := by omega
                have hbx' : b' < z.w.heap.size := by omega
                obtain ⟨⟨b1, b2⟩, b3, b4⟩ := HB.out j hlt
                have HIj := Lib.hid (HI.out j)
                have HFj := Lib.hid (HF.out j)
                have hi : wkI S j < 20 := by
                  rcases Nat.eq_zero_or_pos j with h | h
                  · subst h; show 0 < 20; omega
                  · have := wkI_lt S j h; omega
                have e1 : wkI S (j + 1) = if j = 0 ∨ S j < S (wkI S j) then j else wkI S j := HIj.out
                have E1 := Lib.hid e1
                clear hc hc' hp HIj e1
                generalize hSi : S (wkI S j) = si at *
                generalize hSj : S j = sj at *
                generalize hq : (if j = 0 then (0 : Int) else si) = q at *
                have HQ := Lib.hid hq
                clear hq
                generalize (U j).length = lu at *
                generalize lft (R j).1 (R j).2.1 day (U j) = lf at *
                generalize R j = r at *
                obtain ⟨s, d, l⟩ := r
                dsimp only at *
                have HSj := Lib.hid hSj
                have HSi := Lib.hid hSi
                clear hSj hSi
                go_wp2_with fail
                refine wp_region_after (by kernel_rfl) (by kernel_rfl) ?_; (repeat (first | go_big_quiet_step ((go_at_call 83; exact quiet_after (HV.out _ (by (repeat' (first | (with_reducible exact Below.refl _ _) | (with_reducible assumption) | (with_reducible refine Below.alloc ?_ ?_ _) | (with_reducible refine Below.drew ?_) | (with_reducible refine below_drewN ?_ _) | (with_reducible refine Below.setCell ?_ ?_ _) | (with_reducible refine below_after ?_ ?_ _) | (with_reducible refine below_set ?_) | (with_reducible refine After.size_le _ ?_) | (with_reducible refine size_alloc_le ?_) | (with_reducible refine size_set_le ?_) | (with_reducible refine size_drewN_le ?_) | go_size)))))) | (refine wpQuiet_step (fun K hK => ?_); go_simp; first | (refine hK _ ?_; clear hK K) | (apply Exists.intro; refine ⟨fun x => ?_, hK _ ?_⟩; (go_at_call 83; exact quiet_after (HV.out _ (by (repeat' (first | (with_reducible exact Below.refl _ _) | (with_reducible assumption) | (with_reducible refine Below.alloc ?_ ?_ _) | (with_reducible refine Below.drew ?_) | (with_reducible refine below_drewN ?_ _) | (with_reducible refine Below.setCell ?_ ?_ _) | (with_reducible refine below_after ?_ ?_ _) | (with_reducible refine below_set ?_) | (with_reducible refine After.size_le _ ?_) | (with_reducible refine size_alloc_le ?_) | (with_reducible refine size_set_le ?_) | (with_reducible refine size_drewN_le ?_) | go_size))))); clear hK K)))); refine wpQuiet_nil ?_
                intro y
                have hsy := y.out.size
                have hby : b < y.w.heap.size := by omega
                clear HV
                obtain ⟨sf, hsf⟩ : ∃ sf : Int, sf = if l ≤ lf then s * lf / 5000 else 0 := ⟨_, rfl⟩
                have e2 : sj = sf := by rw [HFj.out, hsf]
                subst e2
                by_cases h1 : l ≤ lf
                · have d1 : decide (lf < l) = false := decide_eq_false (by omega)
                  rw [if_pos h1] at hsf
                  by_cases h0 : j = 0
                  · have d2 : ((j : Int) == 0) = true := by simp [h0]
                    have E2 : Hid (wkI S (j + 1) = j) := Lib.hid (by rw [E1.out, if_pos (.inl h0)])
                    subst hsf
                    clear h0
                    go_wp2
                    go_roundw
                    case rel => exact ⟨j + 1, by omega, by go_num, by rw [E2.out], by rw [E2.out, if_neg (by omega), HSj.out], ⟨_, below_after z.out z.out.size y⟩, rfl⟩
                    case measure => simp [intOf]; omega
                  · have d2 : ((j : Int) == 0) = false := by simp [h0]
                    obtain rfl : q = si := by rw [← HQ.out, if_neg h0]
                    by_cases h2 : sj < q
                    · have d3 : decide (sj < q) = true := decide_eq_true h2
                      have E2 : Hid (wkI S (j + 1) = j) := Lib.hid (by rw [E1.out, if_pos (.inr h2)])
                      subst hsf
                      clear h0 h2
                      go_wp2
                      go_roundw
                      case rel => exact ⟨j + 1, by omega, by go_num, by rw [E2.out], by rw [E2.out, if_neg (by omega), HSj.out], ⟨_, below_after z.out z.out.size y⟩, rfl⟩
                      case measure => simp [intOf]; omega
                    · have d3 : decide (sj < q) = false := decide_eq_false h2
                      have E2 : Hid (wkI S (j + 1) = wkI S j) := Lib.hid (by rw [E1.out, if_neg (fun h => h.elim h0 h2)])
                      subst hsf
                      clear h0 h2
                      go_wp2
                      go_roundw
                      case rel => exact ⟨j + 1, by omega, by go_num, by rw [E2.out], by rw [E2.out, if_neg (by omega), HSi.out], ⟨_, below_after z.out z.out.size y⟩, rfl⟩
                      case measure => simp [intOf]; omega
                · have d1 : decide (lf < l) = true := decide_eq_true (by omega)
                  rw [if_neg h1] at hsf
                  by_cases h0 : j = 0
                  · have d2 : ((j : Int) == 0) = true := by simp [h0]
                    have E2 : Hid (wkI S (j + 1) = j) := Lib.hid (by rw [E1.out, if_pos (.inl h0)])
                    subst hsf
                    clear h0
                    go_wp2
                    go_roundw
                    case rel => exact ⟨j + 1, by omega, by go_num, by rw [E2.out], by rw [E2.out, if_neg (by omega), HSj.out], ⟨_, below_after z.out z.out.size y⟩, rfl⟩
                    case measure => simp [intOf]; omega
                  · have d2 : ((j : Int) == 0) = false := by simp [h0]
                    obtain rfl : q = si := by rw [← HQ.out, if_neg h0]
                    by_cases h2 : sj < q
                    · have d3 : decide (sj < q) = true := decide_eq_true h2
                      have E2 : Hid (wkI S (j + 1) = j) := Lib.hid (by rw [E1.out, if_pos (.inr h2)])
                      subst hsf
                      clear h0 h2
                      go_wp2
                      go_roundw
                      case rel => exact ⟨j + 1, by omega, by go_num, by rw [E2.out], by rw [E2.out, if_neg (by omega), HSj.out], ⟨_, below_after z.out z.out.size y⟩, rfl⟩
                      case measure => simp [intOf]; omega
                    · have d3 : decide (sj < q) = false := decide_eq_false h2
                      have E2 : Hid (wkI S (j + 1) = wkI S j) := Lib.hid (by rw [E1.out, if_neg (fun h => h.elim h0 h2)])
                      subst hsf
                      clear h0 h2
                      go_wp2
                      go_roundw
                      case rel => exact ⟨j + 1, by omega, by go_num, by rw [E2.out], by rw [E2.out, if_neg (by omega), HSi.out], ⟨_, below_after z.out z.out.size y⟩, rfl⟩
                      case measure => simp [intOf]; omega
              · obtain rfl : j = k := by omega
                go_wp2
                go_returns
                exact ⟨by rw [EE.out.1, EE.out.2]; rfl, by (repeat' (first | (with_reducible exact Below.refl _ _) | (with_reducible assumption) | (with_reducible refine Below.alloc ?_ ?_ _) | (with_reducible refine Below.drew ?_) | (with_reducible refine below_drewN ?_ _) | (with_reducible refine Below.setCell ?_ ?_ _) | (with_reducible refine below_after ?_ ?_ _) | (with_reducible refine below_set ?_) | (with_reducible refine After.size_le _ ?_) | (with_reducible refine size_alloc_le ?_) | (with_reducible refine size_set_le ?_) | (with_reducible refine size_drewN_le ?_) | go_size))⟩
          · have HD : Hid (∀ W, _) := fun W => within_f day 0 100000 W hD
            have EE := Lib.hid (wk_day ⟨n1, n2⟩ HG.out hD)
            go_wp2_with (go_at_call 63; refine (HD.out _).mono ?_; rintro e w1 ⟨rfl, rfl⟩)
            go_returns
            exact ⟨by rw [EE.out.1, EE.out.2]; rfl, by (repeat' (first | (with_reducible exact Below.refl _ _) | (with_reducible assumption) | (with_reducible refine Below.alloc ?_ ?_ _) | (with_reducible refine Below.drew ?_) | (with_reducible refine below_drewN ?_ _) | (with_reducible refine Below.setCell ?_ ?_ _) | (with_reducible refine below_after ?_ ?_ _) | (with_reducible refine below_set ?_) | (with_reducible refine After.size_le _ ?_) | (with_reducible refine size_alloc_le ?_) | (with_reducible refine size_set_le ?_) | (with_reducible refine size_drewN_le ?_) | go_size))⟩
    · obtain ⟨e1, e2⟩ := wk_size (R := R) (U := U) (day := day) (fun h => hnm h.2)
      rw [e1, e2]
      have d0 : ((m : Int) == (n : Int)) = false := beq_eq_false_iff_ne.2 (by omega)
      go_enter Try.func59, Try.ntmps59
      go_wp2_with (go_at_call 63; refine (HT.out _).mono ?_; rintro e w1 ⟨rfl, rfl⟩)
      go_returns
      exact ⟨rfl, by (repeat' (first | (with_reducible exact Below.refl _ _) | (with_reducible assumption) | (with_reducible refine Below.alloc ?_ ?_ _) | (with_reducible refine Below.drew ?_) | (with_reducible refine below_drewN ?_ _) | (with_reducible refine Below.setCell ?_ ?_ _) | (with_reducible refine below_after ?_ ?_ _) | (with_reducible refine below_set ?_) | (with_reducible refine After.size_le _ ?_) | (with_reducible refine size_alloc_le ?_) | (with_reducible refine size_set_le ?_) | (with_reducible refine size_drewN_le ?_) | go_size))⟩
  · have HT : Hid (∀ W, _) := fun W => within_f n 1 20 W hB
    obtain ⟨e1, e2⟩ := wk_size (m := m) (R := R) (U := U) (day := day) (fun h => hB h.1)
    rw [e1, e2]
    go_enter Try.func59, Try.ntmps59
    go_wp2_with (go_at_call 63; refine (HT.out _).mono ?_; rintro e w1 ⟨rfl, rfl⟩)
    go_returns
    exact ⟨rfl, by (repeat' (first | (with_reducible exact Below.refl _ _) | (with_reducible assumption) | (with_reducible refine Below.alloc ?_ ?_ _) | (with_reducible refine Below.drew ?_) | (with_reducible refine below_drewN ?_ _) | (with_reducible refine Below.setCell ?_ ?_ _) | (with_reducible refine below_after ?_ ?_ _) | (with_reducible refine below_set ?_) | (with_reducible refine After.size_le _ ?_) | (with_reducible refine size_alloc_le ?_) | (with_reducible refine size_set_le ?_) | (with_reducible refine size_drewN_le ?_) | go_size))⟩
end Go.Proofs.Ytciicijindanlaa
