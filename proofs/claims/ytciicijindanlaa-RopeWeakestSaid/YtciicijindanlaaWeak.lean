/- rope.Weakest. -/
import Derived.Test.YtciicijindanlaaWeakm
namespace Go.Proofs.Ytciicijindanlaa
open Go.RowKit
attribute [local go_sem] After.cell After.frozen After.lt After.le After.ne After.ne' After.set_eq After.size_set After.lt_add

set_option maxRecDepth 100000 in
set_option maxHeartbeats 2000000 in
theorem weakest_any (n m : Nat) (R : Nat → Int × Int × Int) (U : Nat → List (Int × Int)) (v u : Value) (day : Int) (w : World) (hv : Rps w w.heap.size v n R) (hu : Uss w w.heap.size u m U) (hl : ∀ i, i < m → (U i).length ≤ 100) :
    Calls Try.prog 58 #[v, u, .int .i64 day] w fun e w' => e = .returned (.tuple #[.int .i64 (wkV n m R U day), .int .i64 (wkE n m R U day)]) ∧ Below w.heap.size w w' := by
  obtain ⟨a, cap, rfl, hn, HR0⟩ := hv
  obtain ⟨a', cap', rfl, hm, HU0⟩ := hu
  have HR := Lib.hid HR0
  have HU := Lib.hid HU0
  have HL := Lib.hid hl
  have HT : Hid (∀ W, _) := fun W => between_any n 1 20 W
  clear HR0 HU0 hl
  by_cases hB : Btw n 1 20
  · rw [show decide (Btw n 1 20) = true by simp [hB]] at HT
    by_cases hnm : m = n
    · subst hnm
      have HD : Hid (∀ W, _) := fun W => validDay_any day _ rfl W
      have d0 : ((m : Int) == (m : Int)) = true := by simp
      obtain ⟨n1, n2⟩ := hB
      go_enter Try.func58, Try.ntmps58
      go_wp2_with (go_at_call 61; refine (HT.out _).mono ?_; rintro e w1 ⟨rfl, rfl⟩)
      go_loopw [8, 27] (fun _ i wr => ∃ k : Nat, k ≤ m ∧ i = .int .i64 k ∧ Hid (∀ j, j < k → rG R U j) ∧ ∃ x : After w, wr = x.w) (fun _ i _ => m - (intOf i).toNat)
      case atStart => exact ⟨0, by omega, rfl, Lib.hid (fun j hj => absurd hj (by omega)), ⟨w, Below.refl _ _⟩, rfl⟩
      case round =>
        obtain ⟨k, hk, rfl, HG, x, rfl⟩ := hrel
        have hsx := x.out.size
        by_cases hlt : k < m
        · obtain ⟨b, off, rfl, hb, hc⟩ := HR.out (by omega)
          obtain ⟨b', off', rfl, hb', hc'⟩ := HU.out (by omega)
          obtain ⟨c1, c2, c3⟩ := hc k hlt
          obtain ⟨uv, c4, hp⟩ := hc' k hlt
          have HV : Hid (∀ W, Below w.heap.size w W → _) := fun W hW => wvalid_any (R k).1 (R k).2.1 (R k).2.2 uv (U k) W (prc_on hp hW) (by have := HL.out k hlt; omega) _ rfl
          obtain ⟨au, cu, rfl⟩ := prc_slice hp
          have hbx : b < x.w.heap.size := by omega
          have hbx' : b' < x.w.heap.size := by omega
          by_cases hg : rG R U k
          · have e : decide (GoodW (R k).1 (R k).2.1 (R k).2.2 (U k)) = true := decide_eq_true hg
            rw [e] at HV
            have HG2 : Hid (∀ j, j < k + 1 → rG R U j) := fun j hj => by
              rcases Nat.lt_or_ge j k with h | h
              · exact HG.out j h
              · obtain rfl : j = k := by omega
                exact hg
            clear hc hc' hp e hg
            generalize (U k).length = lu at *
            generalize R k = r at *
            obtain ⟨s, d, l⟩ := r
            dsimp only at *
            go_wp2_with fail
            refine wp_region_after (by kernel_rfl) (by kernel_rfl) ?_; (repeat (first | go_big_quiet_step ((go_at_call 88; exact quiet_after (HV.out _ (by (repeat' (first | (with_reducible exact Below.refl _ _) | (with_reducible assumption) | (with_reducible refine Below.alloc ?_ ?_ _) | (with_reducible refine Below.drew ?_) | (with_reducible refine below_drewN ?_ _) | (with_reducible refine Below.setCell ?_ ?_ _) | (with_reducible refine below_after ?_ ?_ _) | (with_reducible refine below_set ?_) | (with_reducible refine After.size_le _ ?_) | (with_reducible refine size_alloc_le ?_) | (with_reducible refine size_set_le ?_) | (with_reducible refine size_drewN_le ?_) | go_size)))))) | (refine wpQuiet_step (fun K hK => ?_); go_simp; first | (refine hK _ ?_; clear hK K) | (apply Exists.intro; refine ⟨fun x => ?_, hK _ ?_⟩; (go_at_call 88; exact quiet_after (HV.out _ (by (repeat' (first | (with_reducible exact Below.refl _ _) | (with_reducible assumption) | (with_reducible refine Below.alloc ?_ ?_ _) | (with_reducible refine Below.drew ?_) | (with_reducible refine below_drewN ?_ _) | (with_reducible refine Below.setCell ?_ ?_ _) | (with_reducible refine below_after ?_ ?_ _) | (with_reducible refine below_set ?_) | (with_reducible refine After.size_le _ ?_) | (with_reducible refine size_alloc_le ?_) | (with_reducible refine size_set_le ?_) | (with_reducible refine size_drewN_le ?_) | go_size))))); clear hK K)))); refine wpQuiet_nil ?_
            intro y
            go_wp2
            go_roundw
            case rel => exact ⟨k + 1, by omega, by go_num, HG2, ⟨_, below_after x.out x.out.size y⟩, rfl⟩
            case measure => simp [intOf]; omega
          · have e : decide (GoodW (R k).1 (R k).2.1 (R k).2.2 (U k)) = false := decide_eq_false hg
            rw [e] at HV
            have EE := Lib.hid (wk_bad (day := day) ⟨n1, n2⟩ hlt hg)
            clear hc hc' hp e hg
            generalize (U k).length = lu at *
            generalize R k = r at *
            obtain ⟨s, d, l⟩ := r
            dsimp only at *
            go_wp2_with fail
            refine wp_region_after (by kernel_rfl) (by kernel_rfl) ?_; (repeat (first | go_big_quiet_step ((go_at_call 88; exact quiet_after (HV.out _ (by (repeat' (first | (with_reducible exact Below.refl _ _) | (with_reducible assumption) | (with_reducible refine Below.alloc ?_ ?_ _) | (with_reducible refine Below.drew ?_) | (with_reducible refine below_drewN ?_ _) | (with_reducible refine Below.setCell ?_ ?_ _) | (with_reducible refine below_after ?_ ?_ _) | (with_reducible refine below_set ?_) | (with_reducible refine After.size_le _ ?_) | (with_reducible refine size_alloc_le ?_) | (with_reducible refine size_set_le ?_) | (with_reducible refine size_drewN_le ?_) | go_size)))))) | (refine wpQuiet_step (fun K hK => ?_); go_simp; first | (refine hK _ ?_; clear hK K) | (apply Exists.intro; refine ⟨fun x => ?_, hK _ ?_⟩; (go_at_call 88; exact quiet_after (HV.out _ (by (repeat' (first | (with_reducible exact Below.refl _ _) | (with_reducible assumption) | (with_reducible refine Below.alloc ?_ ?_ _) | (with_reducible refine Below.drew ?_) | (with_reducible refine below_drewN ?_ _) | (with_reducible refine Below.setCell ?_ ?_ _) | (with_reducible refine below_after ?_ ?_ _) | (with_reducible refine below_set ?_) | (with_reducible refine After.size_le _ ?_) | (with_reducible refine size_alloc_le ?_) | (with_reducible refine size_set_le ?_) | (with_reducible refine size_drewN_le ?_) | go_size))))); clear hK K)))); refine wpQuiet_nil ?_
            intro y
            go_wp2
            go_returns
            exact ⟨by rw [EE.out.1, EE.out.2]; rfl, by (repeat' (first | (with_reducible exact Below.refl _ _) | (with_reducible assumption) | (with_reducible refine Below.alloc ?_ ?_ _) | (with_reducible refine Below.drew ?_) | (with_reducible refine below_drewN ?_ _) | (with_reducible refine Below.setCell ?_ ?_ _) | (with_reducible refine below_after ?_ ?_ _) | (with_reducible refine below_set ?_) | (with_reducible refine After.size_le _ ?_) | (with_reducible refine size_alloc_le ?_) | (with_reducible refine size_set_le ?_) | (with_reducible refine size_drewN_le ?_) | go_size))⟩
        · obtain rfl : k = m := by omega
          by_cases hD : Dy day
          · rw [show decide (Dy day) = true by simp [hD]] at HD
            have EE := Lib.hid (wk_ok ⟨n1, n2⟩ HG.out hD)
            have HB : Hid (∀ j, j < k → 0 ≤ wS R U day j ∧ wS R U day j ≤ 200000) := fun j hj => wS_bd (HG.out j hj) hD
            have HS : Hid (∀ j, j < k → ∀ (uv : Value) (W : World), Prc W W.heap.size uv (U j) → Calls Try.prog 87 #[.agg #[.int .i64 (R j).1, .int .i64 (R j).2.1, .int .i64 (R j).2.2, uv], .int .i64 day] W fun e w' => e = .returned (.tuple #[.int .i64 (wS R U day j), .bool (decide ((R j).2.2 ≤ lft (R j).1 (R j).2.1 day (U j)))]) ∧ Below W.heap.size W w') := fun j hj uv W hp => wsafe_any (R j).1 (R j).2.1 (R j).2.2 day uv (U j) W hp (HG.out j hj) hD
            have HI : Hid (∀ j, wkI (wS R U day) (j + 1) = if j = 0 ∨ wS R U day j < wS R U day (wkI (wS R U day) j) then j else wkI (wS R U day) j) := fun j => rfl
            clear HG hD
            generalize wS R U day = S at *
            go_wp2_with (go_at_call 90; refine (HD.out _).mono ?_; rintro e w1 ⟨rfl, rfl⟩)
            go_loopw [9, 10, 11, 12, 13, 47] (fun bi ls _ _ _ i wr => ∃ j : Nat, j ≤ k ∧ i = .int .i64 j ∧ bi = .int .i64 (wkI S j : Nat) ∧ ls = .int .i64 (if j = 0 then 1000000 else S (wkI S j)) ∧ ∃ z : After w, wr = z.w) (fun _ _ _ _ _ i _ => k - (intOf i).toNat)
            case atStart => exact ⟨0, by omega, rfl, rfl, rfl, x, rfl⟩
            case round =>
              obtain ⟨j, hj, rfl, rfl, rfl, z, rfl⟩ := hrel
              have hsz := z.out.size
              by_cases hlt : j < k
              · obtain ⟨b, off, rfl, hb, hc⟩ := HR.out (by omega)
                obtain ⟨b', off', rfl, hb', hc'⟩ := HU.out (by omega)
                obtain ⟨c1, c2, c3⟩ := hc j hlt
                obtain ⟨uv, c4, hp⟩ := hc' j hlt
                have HV : Hid (∀ W, Below w.heap.size w W → _) := fun W hW => HS.out j hlt uv W (prc_on hp hW)
                obtain ⟨au, cu, rfl⟩ := prc_slice hp
                have hbx : b < z.w.heap.size := by omega
                have hbx' : b' < z.w.heap.size := by omega
                obtain ⟨b1, b2⟩ := HB.out j hlt
                have HIj := Lib.hid (HI.out j)
                have hi : wkI S j < 20 := by
                  rcases Nat.eq_zero_or_pos j with h | h
                  · subst h; show 0 < 20; omega
                  · have := wkI_lt S j h; omega
                by_cases h0 : j = 0 ∨ S j < S (wkI S j)
                · have e : wkI S (j + 1) = j := by rw [HIj.out, if_pos h0]
                  have E := Lib.hid e
                  have d1 : decide (S j < if j = 0 then 1000000 else S (wkI S j)) = true := decide_eq_true (by
                    rcases h0 with h | h
                    · rw [if_pos h]; omega
                    · split <;> omega)
                  clear hc hc' hp e h0 HIj
                  generalize (if j = 0 then 1000000 else S (wkI S j)) = q at *
                  generalize hSj : S j = sj at *
                  generalize (U j).length = lu at *
                  generalize decide ((R j).2.2 ≤ lft (R j).1 (R j).2.1 day (U j)) = ob at *
                  generalize R j = r at *
                  obtain ⟨s, d, l⟩ := r
                  dsimp only at *
                  have HSj := Lib.hid hSj
                  clear hSj
                  go_wp2_with fail
                  refine wp_region_after (by kernel_rfl) (by kernel_rfl) ?_; (repeat (first | go_big_quiet_step ((go_at_call 87; exact quiet_after (HV.out _ (by (repeat' (first | (with_reducible exact Below.refl _ _) | (with_reducible assumption) | (with_reducible refine Below.alloc ?_ ?_ _) | (with_reducible refine Below.drew ?_) | (with_reducible refine below_drewN ?_ _) | (with_reducible refine Below.setCell ?_ ?_ _) | (with_reducible refine below_after ?_ ?_ _) | (with_reducible refine below_set ?_) | (with_reducible refine After.size_le _ ?_) | (with_reducible refine size_alloc_le ?_) | (with_reducible refine size_set_le ?_) | (with_reducible refine size_drewN_le ?_) | go_size)))))) | (refine wpQuiet_step (fun K hK => ?_); go_simp; first | (refine hK _ ?_; clear hK K) | (apply Exists.intro; refine ⟨fun x => ?_, hK _ ?_⟩; (go_at_call 87; exact quiet_after (HV.out _ (by (repeat' (first | (with_reducible exact Below.refl _ _) | (with_reducible assumption) | (with_reducible refine Below.alloc ?_ ?_ _) | (with_reducible refine Below.drew ?_) | (with_reducible refine below_drewN ?_ _) | (with_reducible refine Below.setCell ?_ ?_ _) | (with_reducible refine below_after ?_ ?_ _) | (with_reducible refine below_set ?_) | (with_reducible refine After.size_le _ ?_) | (with_reducible refine size_alloc_le ?_) | (with_reducible refine size_set_le ?_) | (with_reducible refine size_drewN_le ?_) | go_size))))); clear hK K)))); refine wpQuiet_nil ?_
                  intro y
                  go_wp2
                  go_roundw
                  case rel => exact ⟨j + 1, by omega, by go_num, by rw [E.out], by rw [E.out, if_neg (by omega), HSj.out], ⟨_, below_after z.out z.out.size y⟩, rfl⟩
                  case measure => simp [intOf]; omega
                · have e : wkI S (j + 1) = wkI S j := by rw [HIj.out, if_neg h0]
                  have E := Lib.hid e
                  have hj0 : j ≠ 0 := fun h => h0 (.inl h)
                  have d1 : decide (S j < S (wkI S j)) = false := decide_eq_false (fun h => h0 (.inr h))
                  rw [if_neg hj0]
                  clear hc hc' hp e h0 HIj
                  generalize hSi : S (wkI S j) = q at *
                  generalize S j = sj at *
                  generalize (U j).length = lu at *
                  generalize decide ((R j).2.2 ≤ lft (R j).1 (R j).2.1 day (U j)) = ob at *
                  generalize R j = r at *
                  obtain ⟨s, d, l⟩ := r
                  dsimp only at *
                  have HSi := Lib.hid hSi
                  clear hSi
                  go_wp2_with fail
                  refine wp_region_after (by kernel_rfl) (by kernel_rfl) ?_; (repeat (first | go_big_quiet_step ((go_at_call 87; exact quiet_after (HV.out _ (by (repeat' (first | (with_reducible exact Below.refl _ _) | (with_reducible assumption) | (with_reducible refine Below.alloc ?_ ?_ _) | (with_reducible refine Below.drew ?_) | (with_reducible refine below_drewN ?_ _) | (with_reducible refine Below.setCell ?_ ?_ _) | (with_reducible refine below_after ?_ ?_ _) | (with_reducible refine below_set ?_) | (with_reducible refine After.size_le _ ?_) | (with_reducible refine size_alloc_le ?_) | (with_reducible refine size_set_le ?_) | (with_reducible refine size_drewN_le ?_) | go_size)))))) | (refine wpQuiet_step (fun K hK => ?_); go_simp; first | (refine hK _ ?_; clear hK K) | (apply Exists.intro; refine ⟨fun x => ?_, hK _ ?_⟩; (go_at_call 87; exact quiet_after (HV.out _ (by (repeat' (first | (with_reducible exact Below.refl _ _) | (with_reducible assumption) | (with_reducible refine Below.alloc ?_ ?_ _) | (with_reducible refine Below.drew ?_) | (with_reducible refine below_drewN ?_ _) | (with_reducible refine Below.setCell ?_ ?_ _) | (with_reducible refine below_after ?_ ?_ _) | (with_reducible refine below_set ?_) | (with_reducible refine After.size_le _ ?_) | (with_reducible refine size_alloc_le ?_) | (with_reducible refine size_set_le ?_) | (with_reducible refine size_drewN_le ?_) | go_size))))); clear hK K)))); refine wpQuiet_nil ?_
                  intro y
                  go_wp2
                  go_roundw
                  case rel => exact ⟨j + 1, by omega, by go_num, by rw [E.out], by rw [E.out, if_neg (by omega), HSi.out], ⟨_, below_after z.out z.out.size y⟩, rfl⟩
                  case measure => simp [intOf]; omega
              · obtain rfl : j = k := by omega
                go_wp2
                go_returns
                exact ⟨by rw [EE.out.1, EE.out.2]; rfl, by (repeat' (first | (with_reducible exact Below.refl _ _) | (with_reducible assumption) | (with_reducible refine Below.alloc ?_ ?_ _) | (with_reducible refine Below.drew ?_) | (with_reducible refine below_drewN ?_ _) | (with_reducible refine Below.setCell ?_ ?_ _) | (with_reducible refine below_after ?_ ?_ _) | (with_reducible refine below_set ?_) | (with_reducible refine After.size_le _ ?_) | (with_reducible refine size_alloc_le ?_) | (with_reducible refine size_set_le ?_) | (with_reducible refine size_drewN_le ?_) | go_size))⟩
          · rw [show decide (Dy day) = false by simp [hD]] at HD
            have EE := Lib.hid (wk_day ⟨n1, n2⟩ HG.out hD)
            go_wp2_with (go_at_call 90; refine (HD.out _).mono ?_; rintro e w1 ⟨rfl, rfl⟩)
            go_returns
            exact ⟨by rw [EE.out.1, EE.out.2]; rfl, by (repeat' (first | (with_reducible exact Below.refl _ _) | (with_reducible assumption) | (with_reducible refine Below.alloc ?_ ?_ _) | (with_reducible refine Below.drew ?_) | (with_reducible refine below_drewN ?_ _) | (with_reducible refine Below.setCell ?_ ?_ _) | (with_reducible refine below_after ?_ ?_ _) | (with_reducible refine below_set ?_) | (with_reducible refine After.size_le _ ?_) | (with_reducible refine size_alloc_le ?_) | (with_reducible refine size_set_le ?_) | (with_reducible refine size_drewN_le ?_) | go_size))⟩
    · obtain ⟨e1, e2⟩ := wk_size (R := R) (U := U) (day := day) (fun h => hnm h.2)
      rw [e1, e2]
      have d0 : ((m : Int) == (n : Int)) = false := beq_eq_false_iff_ne.2 (by omega)
      go_enter Try.func58, Try.ntmps58
      go_wp2_with (go_at_call 61; refine (HT.out _).mono ?_; rintro e w1 ⟨rfl, rfl⟩)
      go_returns
      exact ⟨rfl, by (repeat' (first | (with_reducible exact Below.refl _ _) | (with_reducible assumption) | (with_reducible refine Below.alloc ?_ ?_ _) | (with_reducible refine Below.drew ?_) | (with_reducible refine below_drewN ?_ _) | (with_reducible refine Below.setCell ?_ ?_ _) | (with_reducible refine below_after ?_ ?_ _) | (with_reducible refine below_set ?_) | (with_reducible refine After.size_le _ ?_) | (with_reducible refine size_alloc_le ?_) | (with_reducible refine size_set_le ?_) | (with_reducible refine size_drewN_le ?_) | go_size))⟩
  · rw [show decide (Btw n 1 20) = false by simp [hB]] at HT
    obtain ⟨e1, e2⟩ := wk_size (m := m) (R := R) (U := U) (day := day) (fun h => hB h.1)
    rw [e1, e2]
    go_enter Try.func58, Try.ntmps58
    go_wp2_with (go_at_call 61; refine (HT.out _).mono ?_; rintro e w1 ⟨rfl, rfl⟩)
    go_returns
    exact ⟨rfl, by (repeat' (first | (with_reducible exact Below.refl _ _) | (with_reducible assumption) | (with_reducible refine Below.alloc ?_ ?_ _) | (with_reducible refine Below.drew ?_) | (with_reducible refine below_drewN ?_ _) | (with_reducible refine Below.setCell ?_ ?_ _) | (with_reducible refine below_after ?_ ?_ _) | (with_reducible refine below_set ?_) | (with_reducible refine After.size_le _ ?_) | (with_reducible refine size_alloc_le ?_) | (with_reducible refine size_set_le ?_) | (with_reducible refine size_drewN_le ?_) | go_size))⟩
end Go.Proofs.Ytciicijindanlaa
