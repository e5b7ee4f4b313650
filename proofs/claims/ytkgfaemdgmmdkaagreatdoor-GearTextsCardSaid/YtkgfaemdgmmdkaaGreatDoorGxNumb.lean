/- The reference's Number: its contract. -/
import Derived.Test.YtkgfaemdgmmdkaaGreatDoorGxNumt
namespace Go.Proofs.YtkgfaemdgmmdkaaGreatDoor.Gx
open Go.Proofs.YtkgfaemdgmmdkaaGreatDoor
open Go.RowKit
attribute [local go_sem] After.cell After.frozen After.lt After.le After.ne After.ne' After.set_eq After.size_set After.lt_add tx_size

theorem bodyL_neg (t : List UInt8) : bodyL (45 :: t) = t := by simp [bodyL]
theorem bodyL_plain {c : UInt8} (t : List UInt8) (h : c ≠ 45) : bodyL (c :: t) = c :: t := by simp [bodyL, h]
/-- The texts that are read as numbers. -/
def NumOk (s : List UInt8) : Prop := ∃ n : Int, In18 n ∧ Lib.itoa n = s
theorem not_numOk {s : List UInt8} (h : ¬ (1 ≤ (bodyL s).length ∧ (bodyL s).length ≤ 18 ∧ ∀ c ∈ bodyL s, dgt c)) : ¬ NumOk s := fun ⟨_, h1, h2⟩ => by
  obtain ⟨a, b, c, _⟩ := read_back h1 h2
  exact h ⟨a, b, c⟩
attribute [local go_sem] tx_toList
/-- What Number answers. -/
def NAns (s : List UInt8) (e : Ending) : Prop := ∃ (N : Int) (ok : Bool), e = .returned (.tuple #[.int .i64 N, .bool ok]) ∧ (ok = true → In18 N ∧ Lib.itoa N = s) ∧ (ok = false → ¬ NumOk s)
theorem nans_no {s : List UInt8} (h : ¬ NumOk s) : NAns s (.returned (.tuple #[.int .i64 0, .bool false])) := ⟨0, false, rfl, (fun h => by cases h), fun _ => h⟩
theorem val_bd {l : List UInt8} (h : l.length ≤ 17) (hd : ∀ c ∈ l, dgt c) : valL l ≤ 99999999999999999 := by
  have h1 := valL_lt _ l rfl hd
  have h2 : 10 ^ l.length ≤ (10 : Nat) ^ 17 := Nat.pow_le_pow_right (by decide) h
  have : (10 : Nat) ^ 17 = 100000000000000000 := by decide
  omega
theorem val_bd18 {l : List UInt8} (h : l.length ≤ 18) (hd : ∀ c ∈ l, dgt c) : valL l ≤ 999999999999999999 := by
  have h1 := valL_lt _ l rfl hd
  have h2 : 10 ^ l.length ≤ (10 : Nat) ^ 18 := Nat.pow_le_pow_right (by decide) h
  have : (10 : Nat) ^ 18 = 1000000000000000000 := by decide
  omega
theorem nans_end {s : List UInt8} (h : (bodyL s).length ≤ 18) (hd : ∀ c ∈ bodyL s, dgt c) : NAns s (.returned (.tuple #[.int .i64 (sgn s (valL (bodyL s))), .bool (Lib.itoa (sgn s (valL (bodyL s))) == s)])) := by
  have hv := val_bd18 h hd
  refine ⟨_, _, rfl, fun h => ⟨?_, beq_iff_eq.1 h⟩, fun h => ?_⟩
  · unfold In18 sgn; split <;> omega
  · rintro ⟨n, h1, h2⟩
    obtain ⟨-, -, -, h3⟩ := read_back h1 h2
    rw [h3] at h
    exact (beq_eq_false_iff_ne.1 h) h2

theorem wrap_u8_in {x : Int} (h1 : 0 ≤ x) (h2 : x < 256) : IntKind.u8.wrap x = x := by
  rw [show IntKind.u8.wrap x = x % 256 by simp [IntKind.wrap, IntKind.bits, IntKind.signed]]
  omega
end Go.Proofs.YtkgfaemdgmmdkaaGreatDoor.Gx
