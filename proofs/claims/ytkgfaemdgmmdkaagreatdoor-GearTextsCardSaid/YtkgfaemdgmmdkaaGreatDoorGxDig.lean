/- Numerals in the reference: Digits. -/
import Derived.Test.YtkgfaemdgmmdkaaGreatDoorGxGtx
import Derived.Test.YtkgfaemdgmmdkaaGreatDoorProg
import Derived.Test.YtkgfaemdgmmdkaaGreatDoorAfter
import Derived.WalkKit
import Derived.WalkSpells
import Derived.WalkLawsBesides
import Derived.Deep.QuietTactic
import Derived.BigQuiet
import Derived.Deep.RegionWith
import Derived.RegionTactic
import Derived.LoopTactic
import Derived.Lib.Hide
import Derived.Below
import Derived.KernelRfl
import Derived.Handy
import Derived.StillTailTactics
import Derived.Lib.ItoaMem
import Derived.Laws.DeepStrings4
namespace Go.Proofs.YtkgfaemdgmmdkaaGreatDoor.Gx
open Go.Proofs.YtkgfaemdgmmdkaaGreatDoor
open Go.RowKit
attribute [local go_sem] After.cell After.frozen After.lt After.le After.ne After.ne' After.set_eq After.size_set After.lt_add

theorem tx_add (a b : List UInt8) : tx a ++ tx b = tx (a ++ b) := ByteArray.mk_append_mk a b
theorem run_tx_add {P : Program} (w : World) (a b : List UInt8) (h : ((a.length : Nat) : Int) ≤ 1000000000000) (h' : ((b.length : Nat) : Int) ≤ 1000000000000) : (Op.stringOp .add (tx a) (tx b)).run P w = .ok (.string (tx (a ++ b))) w := by
  rw [run_string_add_sum w _ _ (by rw [tx_size, tx_size]; omega), tx_add]
def tens : ByteArray := ⟨#[48, 49, 50, 51, 52, 53, 54, 55, 56, 57]⟩
theorem tens_cut {k : Nat} (h : k < 10) : tens.extract k (k + 1) = tx [UInt8.ofNat (48 + k)] := by
  have : ∀ k : Fin 10, tens.extract k.1 (k.1 + 1) = tx [UInt8.ofNat (48 + k.1)] := by decide +kernel
  exact this ⟨k, h⟩
theorem dec_len {N : Nat} (h : N ≤ 9223372036854775808) : (Lib.decDigits N).length ≤ 19 := by
  rw [Lib.decDigits_length]
  rcases Nat.lt_or_ge (Lib.nDigits N) 20 with h1 | h1
  · omega
  · exfalso
    have : ∀ k u : Nat, Lib.nDigits u = k + 1 → 10 ^ k ≤ u ∨ k = 0 := by
      intro k
      induction k with
      | zero => intro u _; exact .inr rfl
      | succ k ih =>
        intro u hu
        by_cases h10 : u < 10
        · rw [Lib.nDigits_small h10] at hu; omega
        · rw [Lib.nDigits_big h10] at hu
          left
          rcases ih (u / 10) (by omega) with h2 | h2
          · rw [Nat.pow_succ]; omega
          · subst h2; simp; omega
    have h2 : 10 ^ 19 ≤ N := by
      rcases this (Lib.nDigits N - 1) N (by have := Lib.nDigits_pos N; omega) with h3 | h3
      · exact Nat.le_trans (Nat.pow_le_pow_right (by decide) (by omega)) h3
      · omega
    have : (10 : Nat) ^ 19 = 10000000000000000000 := by decide
    omega

theorem min_text : Lib.itoa (-9223372036854775808) = [45, 57, 50, 50, 51, 51, 55, 50, 48, 51, 54, 56, 53, 52, 55, 55, 53, 56, 48, 56] := by
  unfold Lib.itoa
  rw [if_pos (by decide)]
  simp [Lib.decDigits]
end Go.Proofs.YtkgfaemdgmmdkaaGreatDoor.Gx
