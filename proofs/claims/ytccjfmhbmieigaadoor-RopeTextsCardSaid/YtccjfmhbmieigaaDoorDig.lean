/- Numerals in the reference: Digits. -/
import Derived.Test.YtccjfmhbmieigaaDoorProg
import Derived.Test.YtccjfmhbmieigaaDoorAfter
import Derived.WalkKit
import Derived.WalkSpells
import Derived.WalkLawsBesides
import Derived.Deep.QuietTactic
import Derived.BigQuiet
import Derived.Deep.RegionWith
import Derived.RegionTactic
import Derived.LoopTactic
import Derived.Lib.Hide
import Derived.Below
import Derived.KernelRfl
import Derived.Handy
import Derived.StillTailTactics
import Derived.Lib.ItoaMem
import Derived.Laws.DeepStrings4
namespace Go.Proofs.YtccjfmhbmieigaaDoor
open Go.RowKit
attribute [local go_sem] After.cell After.frozen After.lt After.le After.ne After.ne' After.set_eq After.size_set After.lt_add

/-- A text. -/
def tx (l : List UInt8) : ByteArray := ⟨l.toArray⟩
theorem tx_size (l : List UInt8) : (tx l).size = l.length := by simp [tx, ByteArray.size]
theorem tx_add (a b : List UInt8) : tx a ++ tx b = tx (a ++ b) := ByteArray.mk_append_mk a b
theorem run_tx_add {P : Program} (w : World) (a b : List UInt8) (h : ((a.length : Nat) : Int) ≤ 1000000000000) (h' : ((b.length : Nat) : Int) ≤ 1000000000000) : (Op.stringOp .add (tx a) (tx b)).run P w = .ok (.string (tx (a ++ b))) w := by
  rw [run_string_add_sum w _ _ (by rw [tx_size, tx_size]; omega), tx_add]
def tens : ByteArray := ⟨#[48, 49, 50, 51, 52, 53, 54, 55, 56, 57]⟩
theorem tens_cut {k : Nat} (h : k < 10) : tens.extract k (k + 1) = tx [UInt8.ofNat (48 + k)] := by
  have : ∀ k : Fin 10, tens.extract k.1 (k.1 + 1) = tx [UInt8.ofNat (48 + k.1)] := by decide +kernel
  exact this ⟨k, h⟩
theorem dec_len {N : Nat} (h : N ≤ 9223372036854775808) : (Lib.decDigits N).length ≤ 19 := by
  rw [Lib.decDigits_length]
  rcases Nat.lt_or_ge (Lib.nDigits N) 20 with h1 | h1
  · omega
  · exfalso
    have : ∀ k u : Nat, Lib.nDigits u = k + 1 → 10 ^ k ≤ u ∨ k = 0 := by
      intro k
      induction k with
      | zero => intro u _; exact .inr rfl
      | succ k ih =>
        intro u hu
        by_cases h10 : u < 10
        · rw [Lib.nDigits_small h10] at hu; omega
        · rw [Lib.nDigits_big h10] at hu
          left
          rcases ih (u / 10) (by omega) with h2 | h2
          · rw [Nat.pow_succ]; omega
          · subst h2; simp; omega
    have h2 : 10 ^ 19 ≤ N := by
      rcases this (Lib.nDigits N - 1) N (by have := Lib.nDigits_pos N; omega) with h3 | h3
      · exact Nat.le_trans (Nat.pow_le_pow_right (by decide) (by omega)) h3
      · omega
    have : (10 : Nat) ^ 19 = 10000000000000000000 := by decide
    omega

set_option maxRecDepth 100000 in
set_option maxHeartbeats 1000000 in
theorem digits_nat (N : Nat) (hN : N ≤ 9223372036854775807) (w : World) :
    Calls Tryd.prog 56 #[.int .i64 N] w fun e w' => e = .returned (.string (tx (Lib.decDigits N))) ∧ Below w.heap.size w w' := by
  have HL := Lib.hid (dec_len (N := N) (by omega))
  have d0 : decide ((N : Int) < 0) = false := decide_eq_false (by omega)
  go_enter Tryd.func56, Tryd.ntmps56
  go_wp2
  go_loopw [0, 3] (fun x s wr => ∃ (m : Nat) (L : List UInt8), x = .int .i64 m ∧ s = .string (tx L) ∧ Lib.decDigits N = Lib.decDigits m ++ L ∧ m ≤ N ∧ wr = w) (fun x _ _ => (intOf x).toNat)
  case atStart => exact ⟨N, [], rfl, rfl, by simp, Nat.le_refl _, rfl⟩
  case round =>
    obtain ⟨m, L, rfl, rfl, hd, hm, rfl⟩ := hrel
    have hl := HL.out
    rw [hd, List.length_append] at hl
    have HD := Lib.hid hd
    clear hd
    by_cases hlt : 9 < m
    · have e1 : Hid (Lib.decDigits m = Lib.decDigits (m / 10) ++ [UInt8.ofNat (48 + m % 10)]) := Lib.hid (by rw [Lib.decDigits, dif_neg (by omega)])
      have hc : tens.extract ((m : Int) % 10).toNat ((m : Int) % 10 + 1).toNat = tx [UInt8.ofNat (48 + m % 10)] := by
        rw [show ((m : Int) % 10).toNat = m % 10 by omega, show ((m : Int) % 10 + 1).toNat = m % 10 + 1 by omega]
        exact tens_cut (by omega)
      obtain ⟨D, hD⟩ : ∃ D, [UInt8.ofNat (48 + m % 10)] = D := ⟨_, rfl⟩
      have hDl : D.length = 1 := by rw [← hD]; rfl
      rw [hD] at e1 hc
      have hadd : ∀ w : World, (Op.stringOp .add (tx D) (tx L)).run Tryd.prog w = .ok (.string (tx (D ++ L))) w := fun w => run_tx_add w D L (by omega) (by omega)
      have d1 : decide ((9 : Int) < (m : Int)) = true := decide_eq_true (by omega)
      have e0 : (⟨#[48, 49, 50, 51, 52, 53, 54, 55, 56, 57]⟩ : ByteArray) = tens := rfl
      have e2 : tens.size = 10 := rfl
      go_wp2
      refine ⟨⟨m / 10, D ++ L, by congr 1, rfl, ?_, by omega, trivial⟩, by simp [intOf]; omega⟩
      rw [HD.out, e1.out, List.append_assoc]
    · have hc : tens.extract ((m : Int)).toNat ((m : Int) + 1).toNat = tx [UInt8.ofNat (48 + m)] := by
        rw [show ((m : Int)).toNat = m by omega, show ((m : Int) + 1).toNat = m + 1 by omega]
        exact tens_cut (by omega)
      have e1 : Hid (Lib.decDigits m = [UInt8.ofNat (48 + m)]) := Lib.hid (Lib.decDigits_one (by omega))
      obtain ⟨D, hD⟩ : ∃ D, [UInt8.ofNat (48 + m)] = D := ⟨_, rfl⟩
      have hDl : D.length = 1 := by rw [← hD]; rfl
      have hc2 := hc
      rw [show ((m : Int)).toNat = m by omega, show ((m : Int) + 1).toNat = m + 1 by omega] at hc2
      rw [hD] at e1 hc hc2
      have hadd : ∀ w : World, (Op.stringOp .add (tx D) (tx L)).run Tryd.prog w = .ok (.string (tx (D ++ L))) w := fun w => run_tx_add w D L (by omega) (by omega)
      have d1 : decide ((9 : Int) < (m : Int)) = false := decide_eq_false (by omega)
      have e0 : (⟨#[48, 49, 50, 51, 52, 53, 54, 55, 56, 57]⟩ : ByteArray) = tens := rfl
      have e2 : tens.size = 10 := rfl
      go_wp2
      go_ret
      exact ⟨(congrArg (fun l => Ending.returned (Value.string (tx l))) (show Lib.decDigits N = D ++ L by rw [HD.out, e1.out])).symm, by (repeat' (first | (with_reducible exact Below.refl _ _) | (with_reducible assumption) | (with_reducible refine Below.alloc ?_ ?_ _) | (with_reducible refine Below.drew ?_) | (with_reducible refine below_drewN ?_ _) | (with_reducible refine Below.setCell ?_ ?_ _) | (with_reducible refine below_after ?_ ?_ _) | (with_reducible refine below_set ?_) | (with_reducible refine After.size_le _ ?_) | (with_reducible refine size_alloc_le ?_) | (with_reducible refine size_set_le ?_) | (with_reducible refine size_drewN_le ?_) | go_size))⟩
theorem min_text : Lib.itoa (-9223372036854775808) = [45, 57, 50, 50, 51, 51, 55, 50, 48, 51, 54, 56, 53, 52, 55, 55, 53, 56, 48, 56] := by
  unfold Lib.itoa
  rw [if_pos (by decide)]
  simp [Lib.decDigits]
set_option maxRecDepth 100000 in
set_option maxHeartbeats 1000000 in
theorem digits_any (n : Int) (h0 : -9223372036854775808 ≤ n) (h1 : n ≤ 9223372036854775807) (w : World) :
    Calls Tryd.prog 56 #[.int .i64 n] w fun e w' => e = .returned (.string (tx (Lib.itoa n))) ∧ Below w.heap.size w w' := by
  by_cases hn : 0 ≤ n
  · obtain ⟨N, rfl⟩ := Int.eq_ofNat_of_zero_le hn
    rw [Lib.itoa_nonneg]
    exact digits_nat N (by omega) w
  · have d0 : decide (n < 0) = true := decide_eq_true (by omega)
    by_cases hm : n = -9223372036854775808
    · have hw : IntKind.i64.wrap (-n) = n := by rw [hm]; decide
      have e : Hid (Lib.itoa n = [45, 57, 50, 50, 51, 51, 55, 50, 48, 51, 54, 56, 53, 52, 55, 55, 53, 56, 48, 56]) := Lib.hid (by rw [hm]; exact min_text)
      have d1 : (n == n) = true := beq_self_eq_true n
      rw [e.out]
      have e0 : (⟨#[45, 57, 50, 50, 51, 51, 55, 50, 48, 51, 54, 56, 53, 52, 55, 55, 53, 56, 48, 56]⟩ : ByteArray) = tx [45, 57, 50, 50, 51, 51, 55, 50, 48, 51, 54, 56, 53, 52, 55, 55, 53, 56, 48, 56] := rfl
      obtain ⟨M, hM⟩ : ∃ M, tx [45, 57, 50, 50, 51, 51, 55, 50, 48, 51, 54, 56, 53, 52, 55, 55, 53, 56, 48, 56] = M := ⟨_, rfl⟩
      rw [hM] at e0 ⊢
      clear hm h0 h1 hM e hn
      go_enter Tryd.func56, Tryd.ntmps56
      have E0 := Lib.hid e0
      clear e0
      go_wp2
      go_ret
      exact ⟨congrArg (fun b => Ending.returned (Value.string b)) E0.out, by (repeat' (first | (with_reducible exact Below.refl _ _) | (with_reducible assumption) | (with_reducible refine Below.alloc ?_ ?_ _) | (with_reducible refine Below.drew ?_) | (with_reducible refine below_drewN ?_ _) | (with_reducible refine Below.setCell ?_ ?_ _) | (with_reducible refine below_after ?_ ?_ _) | (with_reducible refine below_set ?_) | (with_reducible refine After.size_le _ ?_) | (with_reducible refine size_alloc_le ?_) | (with_reducible refine size_set_le ?_) | (with_reducible refine size_drewN_le ?_) | go_size))⟩
    · obtain ⟨N, hN⟩ := Int.eq_ofNat_of_zero_le (show 0 ≤ -n by omega)
      have HK := Lib.hid (digits_nat N (by omega) w)
      have e : Hid (Lib.itoa n = 45 :: Lib.decDigits N) := Lib.hid (by rw [show n = -(N : Int) by omega]; exact Lib.itoa_neg N (by omega))
      have hl := dec_len (N := N) (by omega)
      rw [e.out]
      generalize Lib.decDigits N = D at *
      have hadd : ∀ w : World, (Op.stringOp .add (tx [45]) (tx D)).run Tryd.prog w = .ok (.string (tx (45 :: D))) w := fun w => run_tx_add w [45] D (by simp) (by omega)
      have d1 : (n == -n) = false := by rw [beq_eq_false_iff_ne]; omega
      have e0 : (⟨#[45]⟩ : ByteArray) = tx [45] := rfl
      rw [← hN] at HK
      have hw : IntKind.i64.wrap (-n) = -n := by rw [IntKind.wrap_i64]; omega
      clear hN hm
      go_enter Tryd.func56, Tryd.ntmps56
      go_wp2_with fail
      refine HK.out.mono ?_
      rintro e w1 ⟨rfl, hb⟩
      have HB := Lib.hid hb
      clear hb
      go_wp2
      go_ret
      exact ⟨rfl, HB.out⟩
end Go.Proofs.YtccjfmhbmieigaaDoor
