/- The reference's Format of good gear. -/
import Derived.Test.YtkgfaemdgmmdkaaGreatDoorIpw
import Derived.Test.YtkgfaemdgmmdkaaGreatDoorGxSxDig
import Derived.Deep.RegionHeld3
namespace Go.Proofs.YtkgfaemdgmmdkaaGreatDoor.Gx
open Go.Proofs.YtkgfaemdgmmdkaaGreatDoor
open Go.RowKit
attribute [local go_sem] After.cell After.frozen After.lt After.le After.ne After.ne' After.set_eq After.size_set After.lt_add tx_size tx_toList

theorem line_sum (S : List UInt8) (p : It) : (((((((S ++ p.1) ++ [32]) ++ Lib.itoa p.2.1) ++ [32]) ++ Lib.itoa p.2.2.1) ++ [32]) ++ p.2.2.2) ++ [10] = S ++ (itL p ++ [10]) := by simp [itL, joinW]
set_option maxRecDepth 100000 in
set_option maxHeartbeats 2000000 in
theorem rformatI_ok (a : Option Addr) (cap : Nat) (ps : List It) (w : World) (hA : IAt w a ps) (hG : GoodI ps) :
    Calls Tryz.prog 9 #[.slice a ps.length cap] w fun e w' => e = .returned (.string (tx (formI ps))) ∧ Below w.heap.size w w' := by
  have HV := Lib.hid (rvalid_i (cap := cap) hA (by have := hG.1; omega) (goodI_sh hG))
  rw [gB_good.2 hG] at HV
  have HC := Lib.hid hA
  have HI : Hid (∀ k, k < ps.length → ((1 ≤ iL ps k ∧ iL ps k ≤ 1000000) ∧ 0 ≤ iD ps k ∧ iD ps k ≤ 100000) ∧ ((iM ps k).length ≤ 16 ∧ (iB ps k).length ≤ 16)) := Lib.hid fun k hk => by
    obtain ⟨_, _, h3, h4, h5, h6⟩ := ok_facts (goodI_at hG (get_it ps hk))
    unfold iM iL iD iB
    exact ⟨⟨h5, h6⟩, h3, h4⟩
  have HF : Hid (∀ k, k < ps.length → formI (ps.take (k + 1)) = formI (ps.take k) ++ (itL (iM ps k, iL ps k, iD ps k, iB ps k) ++ [10])) := Lib.hid fun k hk => formI_next ps hk
  have hn5 : (ps.length : Int) ≤ 64 := by have := hG.1; omega
  clear hA hG
  go_enter Tryz.func9, Tryz.ntmps9
  go_wp2_with fail
  refine (HV.out _ (by (repeat' (first | (with_reducible exact Below.refl _ _) | (with_reducible assumption) | (with_reducible refine Below.alloc ?_ ?_ _) | (with_reducible refine Below.drew ?_) | (with_reducible refine below_drewN ?_ _) | (with_reducible refine Below.setCell ?_ ?_ _) | (with_reducible refine below_after ?_ ?_ _) | (with_reducible refine below_set ?_) | (with_reducible refine After.size_le _ ?_) | (with_reducible refine size_alloc_le ?_) | (with_reducible refine size_set_le ?_) | (with_reducible refine size_drewN_le ?_) | go_size)))).mono ?_
  rintro e0 w1 ⟨rfl, hb1⟩
  obtain ⟨x1, rfl⟩ := after_ip hb1
  clear hb1
  go_wp2
  go_loopw [3, 4] (fun s i wr => ∃ k : Nat, k ≤ ps.length ∧ i = .int .i64 k ∧ s = .string (tx (formI (ps.take k))) ∧ (formI (ps.take k)).length ≤ k * 76 ∧ ∃ x : After w, wr = x.w) (fun _ i _ => ps.length - (intOf i).toNat)
  case atStart => exact ⟨0, by omega, rfl, rfl, by simp [formI], x1, rfl⟩
  case round =>
    obtain ⟨k, hk, rfl, rfl, hlen, x, rfl⟩ := hrel
    by_cases hlt : k < ps.length
    · obtain ⟨b, off, rfl, hb, c0, c1, c2, c3⟩ := (HC.out.on x.out) k hlt
      obtain ⟨⟨⟨m1, m2⟩, m3, m4⟩, m5, m6⟩ := HI.out k hlt
      have hS := HF.out k hlt
      have hE := line_sum (formI (ps.take k)) (iM ps k, iL ps k, iD ps k, iB ps k)
      rw [← hS] at hE
      have J0 := Lib.hid (fun V => dig6_any (iL ps k) (by omega) (by omega) V)
      have J1 := Lib.hid (fun V => dig6_any (iD ps k) (by omega) (by omega) V)
      have q0 : (Lib.itoa (iL ps k)).length ≤ 20 := itoa_l20 (by unfold I64; omega)
      have q1 : (Lib.itoa (iD ps k)).length ≤ 20 := itoa_l20 (by unfold I64; omega)
      have hkn : (k : Int) < (ps.length : Int) := by omega
      have hln : (formI (ps.take (k + 1))).length ≤ (k + 1) * 76 := by rw [← hE]; simp; omega
      have HR := Lib.hid (And.intro hln hE)
      clear hS hln m1 m2 m3 m4
      dsimp only at hE
      generalize Lib.itoa (iL ps k) = s0 at *
      generalize Lib.itoa (iD ps k) = s1 at *
      generalize iM ps k = z0 at *
      generalize iL ps k = z1 at *
      generalize iD ps k = z2 at *
      generalize iB ps k = z3 at *
      obtain ⟨R, hR⟩ : ∃ R, formI (ps.take (k + 1)) = R := ⟨_, rfl⟩
      have HRe := Lib.hid hR
      rw [hR] at hE HR
      clear hR
      generalize formI (ps.take k) = S at *
      have l0 : S.length ≤ 5000 := by omega
      have e32 : (⟨#[32]⟩ : ByteArray) = tx [32] := rfl
      have e10 : (⟨#[10]⟩ : ByteArray) = tx [10] := rfl
      have a0 : ∀ w : World, (Op.stringOp .add (tx S) (tx z0)).run Tryz.prog w = .ok (.string (tx (S ++ z0))) w := fun w => run_tx_add w _ _ (by omega) (by omega)
      have l1 : (S ++ z0).length ≤ 5016 := by simp; omega
      generalize S ++ z0 = u0 at *
      have a1 : ∀ w : World, (Op.stringOp .add (tx u0) (tx [32])).run Tryz.prog w = .ok (.string (tx (u0 ++ [32]))) w := fun w => run_tx_add w _ _ (by omega) (by simp)
      have l2 : (u0 ++ [32]).length ≤ 5017 := by simp; omega
      generalize u0 ++ [32] = u1 at *
      have a2 : ∀ w : World, (Op.stringOp .add (tx u1) (tx s0)).run Tryz.prog w = .ok (.string (tx (u1 ++ s0))) w := fun w => run_tx_add w _ _ (by omega) (by omega)
      have l3 : (u1 ++ s0).length ≤ 5037 := by simp; omega
      generalize u1 ++ s0 = u2 at *
      have a3 : ∀ w : World, (Op.stringOp .add (tx u2) (tx [32])).run Tryz.prog w = .ok (.string (tx (u2 ++ [32]))) w := fun w => run_tx_add w _ _ (by omega) (by simp)
      have l4 : (u2 ++ [32]).length ≤ 5038 := by simp; omega
      generalize u2 ++ [32] = u3 at *
      have a4 : ∀ w : World, (Op.stringOp .add (tx u3) (tx s1)).run Tryz.prog w = .ok (.string (tx (u3 ++ s1))) w := fun w => run_tx_add w _ _ (by omega) (by omega)
      have l5 : (u3 ++ s1).length ≤ 5058 := by simp; omega
      generalize u3 ++ s1 = u4 at *
      have a5 : ∀ w : World, (Op.stringOp .add (tx u4) (tx [32])).run Tryz.prog w = .ok (.string (tx (u4 ++ [32]))) w := fun w => run_tx_add w _ _ (by omega) (by simp)
      have l6 : (u4 ++ [32]).length ≤ 5059 := by simp; omega
      generalize u4 ++ [32] = u5 at *
      have a6 : ∀ w : World, (Op.stringOp .add (tx u5) (tx z3)).run Tryz.prog w = .ok (.string (tx (u5 ++ z3))) w := fun w => run_tx_add w _ _ (by omega) (by omega)
      have l7 : (u5 ++ z3).length ≤ 5075 := by simp; omega
      generalize u5 ++ z3 = u6 at *
      have a7 : ∀ w : World, (Op.stringOp .add (tx u6) (tx [10])).run Tryz.prog w = .ok (.string (tx (u6 ++ [10]))) w := fun w => run_tx_add w _ _ (by omega) (by simp)
      rw [hE] at a7
      clear hE l0 l1 l2 l3 l4 l5 l6 l7 hlen
      go_wp2
      refine wp_region_after (by kernel_rfl) (by kernel_rfl) ?_; (repeat (first | go_big_quiet_step ((go_at_call 24; first | with_reducible exact quiet_after (J0.out _) | with_reducible exact quiet_after (J1.out _))) | (refine wpQuiet_step (fun K hK => ?_); go_simp; first | (refine hK _ ?_; clear hK K) | (apply Exists.intro; refine ⟨fun x => ?_, hK _ ?_⟩; (go_at_call 24; first | with_reducible exact quiet_after (J0.out _) | with_reducible exact quiet_after (J1.out _)); clear hK K)))); refine wpQuiet_nil ?_
      intro y
      go_wp2
      go_roundw
      case rel => exact ⟨k + 1, by omega, by go_num, by rw [HRe.out], by rw [HRe.out]; exact HR.out.1, ⟨_, x.out.trans (y.out.mono x.out.size)⟩, rfl⟩
      case measure => simp [intOf]; omega
    · obtain rfl : k = ps.length := by omega
      have hF : formI (ps.take ps.length) = formI ps := by rw [List.take_length]
      rw [hF]
      go_wp2
      go_ret
      exact ⟨rfl, by (repeat' (first | (with_reducible exact Below.refl _ _) | (with_reducible assumption) | (with_reducible refine Below.alloc ?_ ?_ _) | (with_reducible refine Below.drew ?_) | (with_reducible refine below_drewN ?_ _) | (with_reducible refine Below.setCell ?_ ?_ _) | (with_reducible refine below_after ?_ ?_ _) | (with_reducible refine below_set ?_) | (with_reducible refine After.size_le _ ?_) | (with_reducible refine size_alloc_le ?_) | (with_reducible refine size_set_le ?_) | (with_reducible refine size_drewN_le ?_) | go_size))⟩
end Go.Proofs.YtkgfaemdgmmdkaaGreatDoor.Gx
