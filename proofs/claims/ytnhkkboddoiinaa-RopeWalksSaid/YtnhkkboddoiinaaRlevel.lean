/- Level in the reference. -/
import Derived.Test.YtnhkkboddoiinaaWalkm
import Derived.Test.YtnhkkboddoiinaaShares
namespace Go.Proofs.Ytnhkkboddoiinaa
open Go.RowKit
attribute [local go_sem] After.cell After.frozen After.lt After.le After.ne After.ne' After.set_eq After.size_set After.lt_add

set_option maxRecDepth 100000 in
set_option maxHeartbeats 1000000 in
theorem rlevel_any (s n : Int) (v : Value) (ps : List (Int × Int)) (w : World) (h : Prs w w.heap.size v ps) :
    Calls Try.prog 38 #[.int .i64 s, v, .int .i64 n] w fun e w' => e = .returned (.tuple #[.int .i64 (leV s n ps), .int .i64 (leE s n ps)]) ∧ Below w.heap.size w w' := by
  by_cases hG : GoodL s ps
  · have HV : Hid (∀ W, Below w.heap.size w W → _) := fun W hW => rvalidLoads_b s v ps W true (by simp [hG]) (prs_on h hW)
    by_cases hn : Btw n 1 1000000
    · obtain ⟨e1, e2⟩ := le_ok hG hn
      obtain ⟨s1, s2⟩ := hG.1
      obtain ⟨n1, n2⟩ := hn
      have HS : Hid (∀ W, Below w.heap.size w W → _) := fun W hW => levers_v s v ps W (prs_on h hW) hG
      have hD : Hid (∀ x : Nat, (x : Int) ≤ s → -2100000000000 ≤ dif s n ps x ∧ dif s n ps x ≤ 2100000000000) := fun x hx => dif_bd hG ⟨by omega, n2⟩ (by omega) hx
      have hE : Hid (∀ x : Nat, dif s n ps x = fS s ps - sS ps + n * (s - 2 * x)) := fun x => rfl
      have hA : Hid (∀ x : Nat, dA s n ps x = (dif s n ps x).natAbs) := fun x => rfl
      have h0 : Hid (lvI s n ps 0 = 0) := rfl
      have hS : Hid (∀ k, lvI s n ps (k + 1) = if dA s n ps (k + 1) < dA s n ps (lvI s n ps k) then k + 1 else lvI s n ps k) := fun k => rfl
      have hle : Hid (∀ k, lvI s n ps k ≤ k) := lvI_le
      have hn := Lib.hid (within_t n 1 1000000 · ⟨n1, n2⟩)
      obtain ⟨b1, b2, b3, b4, _, _⟩ := all_bd hG
      rw [e1, e2]
      clear h hG e1 e2
      generalize fS s ps = F at *
      generalize sS ps = T at *
      generalize aS ps = U at *
      generalize lvI s n ps = I at *
      generalize dA s n ps = A at *
      go_enter Try.func38, Try.ntmps38
      go_wp2_with fail
      refine calls_after (HV.out _ (by (repeat' (first | (with_reducible exact Below.refl _ _) | (with_reducible assumption) | (with_reducible refine Below.alloc ?_ ?_ _) | (with_reducible refine Below.drew ?_) | (with_reducible refine below_drewN ?_ _) | (with_reducible refine Below.setCell ?_ ?_ _) | (with_reducible refine below_after ?_ ?_ _) | (with_reducible refine below_set ?_) | (with_reducible refine After.size_le _ ?_) | (with_reducible refine size_alloc_le ?_) | (with_reducible refine size_set_le ?_) | (with_reducible refine size_drewN_le ?_) | go_size)))) ?_
      intro x1
      go_wp2_with (go_at_call 63; (refine (hn.out _).mono ?_; rintro e w1 ⟨rfl, rfl⟩))
      refine calls_after2 (HS.out _ (by (repeat' (first | (with_reducible exact Below.refl _ _) | (with_reducible assumption) | (with_reducible refine Below.alloc ?_ ?_ _) | (with_reducible refine Below.drew ?_) | (with_reducible refine below_drewN ?_ _) | (with_reducible refine Below.setCell ?_ ?_ _) | (with_reducible refine below_after ?_ ?_ _) | (with_reducible refine below_set ?_) | (with_reducible refine After.size_le _ ?_) | (with_reducible refine size_alloc_le ?_) | (with_reducible refine size_set_le ?_) | (with_reducible refine size_drewN_le ?_) | go_size)))) ?_
      intro x2
      go_wp2_with fail
      go_loopw [11, 12, 13, 14] (fun b l x _ wr => ∃ k : Nat, (k : Int) ≤ s + 1 ∧ x = .int .i64 k ∧ (k = 0 ∧ b = .int .i64 0 ∧ l = .int .i64 0 ∨ ∃ j, k = j + 1 ∧ b = .int .i64 (I j : Nat) ∧ l = .int .i64 (A (I j))) ∧ ∃ y : After w, wr = y.w) (fun _ _ x _ _ => s.toNat + 1 - (intOf x).toNat)
      case atStart => exact ⟨0, by omega, rfl, .inl ⟨rfl, rfl, rfl⟩, x2, rfl⟩
      case round =>
        obtain ⟨k, hk, rfl, hst, y, rfl⟩ := hrel
        by_cases hks : (k : Int) ≤ s
        · obtain ⟨d1, d2⟩ := hD.out k hks
          have q1 := hA.out k
          rw [hE.out k] at d1 d2 q1
          have m1 : -10000000000000 ≤ n * (s - 2 * k) ∧ n * (s - 2 * k) ≤ 10000000000000 := by omega
          obtain ⟨m1, m2⟩ := m1
          rcases Int.lt_or_le (F - T + n * (s - 2 * k)) 0 with c | c
          all_goals
            first
            | (have q2 : A k = -(F - T + n * (s - 2 * k)) := by omega)
            | (have q2 : A k = F - T + n * (s - 2 * k) := by omega)
            have Q2 := Lib.hid q2
            clear q1
            rcases hst with ⟨hk0, rfl, rfl⟩ | ⟨j, hkj, rfl, rfl⟩
            · have d0 : ((k : Int) == 0) = true := by rw [hk0]; rfl
              have HI : Hid (I k = k) := by rw [hk0, h0.out]; exact Lib.hid rfl
              clear q2 hk0
              go_wp2
              go_roundw
              case rel => exact ⟨k + 1, by omega, by go_num, .inr ⟨k, rfl, by rw [HI.out], by rw [HI.out, Q2.out]⟩, y, rfl⟩
              case measure => simp [intOf]; omega
            · have HJ : Hid (I k = if A k < A (I j) then k else I j) := by rw [hkj]; exact Lib.hid (hS.out j)
              have d0 : ((k : Int) == 0) = false := beq_eq_false_iff_ne.2 (by omega)
              have k1 : 1 ≤ k := by omega
              clear hkj
              rcases Int.lt_or_le (A k) (A (I j)) with c2 | c2
              · have HJ : Hid (I k = k) := Lib.hid (by rw [HJ.out, if_pos c2])
                rw [q2] at c2
                clear q2
                go_wp2
                go_roundw
                case rel => exact ⟨k + 1, by omega, by go_num, .inr ⟨k, rfl, by rw [HJ.out], by rw [HJ.out, Q2.out]⟩, y, rfl⟩
                case measure => simp [intOf]; omega
              · have HJ : Hid (I k = I j) := Lib.hid (by rw [HJ.out, if_neg (by omega)])
                rw [q2] at c2
                clear q2
                go_wp2
                go_roundw
                case rel => exact ⟨k + 1, by omega, by go_num, .inr ⟨k, rfl, by rw [HJ.out], by rw [HJ.out]⟩, y, rfl⟩
                case measure => simp [intOf]; omega
        · rcases hst with ⟨hk0, _⟩ | ⟨j, rfl, rfl, rfl⟩
          · omega
          obtain rfl : j = s.toNat := by omega
          go_wp2
          go_returns
          exact ⟨rfl, by (repeat' (first | (with_reducible exact Below.refl _ _) | (with_reducible assumption) | (with_reducible refine Below.alloc ?_ ?_ _) | (with_reducible refine Below.drew ?_) | (with_reducible refine below_drewN ?_ _) | (with_reducible refine Below.setCell ?_ ?_ _) | (with_reducible refine below_after ?_ ?_ _) | (with_reducible refine below_set ?_) | (with_reducible refine After.size_le _ ?_) | (with_reducible refine size_alloc_le ?_) | (with_reducible refine size_set_le ?_) | (with_reducible refine size_drewN_le ?_) | go_size))⟩
    · obtain ⟨e1, e2⟩ := le_range hG hn
      have hn := Lib.hid (within_f n 1 1000000 · hn)
      rw [e1, e2]
      clear h hG e1 e2
      go_enter Try.func38, Try.ntmps38
      go_wp2_with fail
      refine calls_after (HV.out _ (by (repeat' (first | (with_reducible exact Below.refl _ _) | (with_reducible assumption) | (with_reducible refine Below.alloc ?_ ?_ _) | (with_reducible refine Below.drew ?_) | (with_reducible refine below_drewN ?_ _) | (with_reducible refine Below.setCell ?_ ?_ _) | (with_reducible refine below_after ?_ ?_ _) | (with_reducible refine below_set ?_) | (with_reducible refine After.size_le _ ?_) | (with_reducible refine size_alloc_le ?_) | (with_reducible refine size_set_le ?_) | (with_reducible refine size_drewN_le ?_) | go_size)))) ?_
      intro x1
      go_wp2_with (go_at_call 63; (refine (hn.out _).mono ?_; rintro e w1 ⟨rfl, rfl⟩))
      go_returns
      exact ⟨rfl, by (repeat' (first | (with_reducible exact Below.refl _ _) | (with_reducible assumption) | (with_reducible refine Below.alloc ?_ ?_ _) | (with_reducible refine Below.drew ?_) | (with_reducible refine below_drewN ?_ _) | (with_reducible refine Below.setCell ?_ ?_ _) | (with_reducible refine below_after ?_ ?_ _) | (with_reducible refine below_set ?_) | (with_reducible refine After.size_le _ ?_) | (with_reducible refine size_alloc_le ?_) | (with_reducible refine size_set_le ?_) | (with_reducible refine size_drewN_le ?_) | go_size))⟩
  · obtain ⟨e1, e2⟩ := le_bad (s := s) (n := n) hG
    have HV : Hid (∀ W, Below w.heap.size w W → _) := fun W hW => rvalidLoads_b s v ps W false (by simp [hG]) (prs_on h hW)
    rw [e1, e2]
    clear h hG e1 e2
    go_enter Try.func38, Try.ntmps38
    go_wp2_with fail
    refine calls_after (HV.out _ (by (repeat' (first | (with_reducible exact Below.refl _ _) | (with_reducible assumption) | (with_reducible refine Below.alloc ?_ ?_ _) | (with_reducible refine Below.drew ?_) | (with_reducible refine below_drewN ?_ _) | (with_reducible refine Below.setCell ?_ ?_ _) | (with_reducible refine below_after ?_ ?_ _) | (with_reducible refine below_set ?_) | (with_reducible refine After.size_le _ ?_) | (with_reducible refine size_alloc_le ?_) | (with_reducible refine size_set_le ?_) | (with_reducible refine size_drewN_le ?_) | go_size)))) ?_
    intro x1
    go_wp2
    go_returns
    exact ⟨rfl, by (repeat' (first | (with_reducible exact Below.refl _ _) | (with_reducible assumption) | (with_reducible refine Below.alloc ?_ ?_ _) | (with_reducible refine Below.drew ?_) | (with_reducible refine below_drewN ?_ _) | (with_reducible refine Below.setCell ?_ ?_ _) | (with_reducible refine below_after ?_ ?_ _) | (with_reducible refine below_set ?_) | (with_reducible refine After.size_le _ ?_) | (with_reducible refine size_alloc_le ?_) | (with_reducible refine size_set_le ?_) | (with_reducible refine size_drewN_le ?_) | go_size))⟩
end Go.Proofs.Ytnhkkboddoiinaa
