/- Numbers read: plain mathematics. -/
import Derived.Test.YtkgfaemdgmmdkaaGreatDoorGxWordsr
namespace Go.Proofs.YtkgfaemdgmmdkaaGreatDoor.Gx
open Go.Proofs.YtkgfaemdgmmdkaaGreatDoor
open Go.RowKit

theorem u8_nat {k : Nat} (h : k < 256) : (UInt8.ofNat k).toNat = k := by
  rw [UInt8.toNat_ofNat']
  exact Nat.mod_eq_of_lt (by simpa using h)
def dgt (c : UInt8) : Prop := 48 ≤ c.toNat ∧ c.toNat ≤ 57
instance (c : UInt8) : Decidable (dgt c) := by unfold dgt; infer_instance
/-- The value of digits. -/
def valL (l : List UInt8) : Nat := l.foldl (fun n c => 10 * n + (c.toNat - 48)) 0
theorem valL_snoc (l : List UInt8) (c : UInt8) : valL (l ++ [c]) = 10 * valL l + (c.toNat - 48) := by simp [valL, List.foldl_append]
theorem valL_lt : ∀ (n : Nat) (l : List UInt8), l.length = n → (∀ c ∈ l, dgt c) → valL l < 10 ^ n
  | 0, l, h, _ => by
    have : l = [] := List.length_eq_zero_iff.1 h
    subst this; simp [valL]
  | n + 1, l, h, hd => by
    obtain ⟨l', c, rfl⟩ : ∃ l' c, l = l' ++ [c] := by
      have hne : l ≠ [] := by intro e; subst e; simp at h
      exact ⟨l.dropLast, l.getLast hne, (List.dropLast_concat_getLast hne).symm⟩
    have ih := valL_lt n l' (by simpa using h) (fun x hx => hd x (List.mem_append_left _ hx))
    have hc := hd c (by simp)
    unfold dgt at hc
    rw [valL_snoc, Nat.pow_succ]
    omega
theorem dec_dgt (m : Nat) : ∀ c ∈ Lib.decDigits m, dgt c := by
  induction m using Nat.strongRecOn with
  | _ m ih =>
    intro c hc
    rw [Lib.decDigits] at hc
    by_cases h : m < 10
    · rw [dif_pos h] at hc
      simp only [List.mem_singleton] at hc
      subst hc
      unfold dgt
      rw [u8_nat (k := 48 + m) (by omega)]
      omega
    · rw [dif_neg h] at hc
      rcases List.mem_append.1 hc with h1 | h1
      · exact ih (m / 10) (by omega) c h1
      · simp only [List.mem_singleton] at h1
        subst h1
        unfold dgt
        rw [u8_nat (k := 48 + m % 10) (by omega)]
        omega
theorem val_dec (m : Nat) : valL (Lib.decDigits m) = m := by
  induction m using Nat.strongRecOn with
  | _ m ih =>
    rw [Lib.decDigits]
    by_cases h : m < 10
    · rw [dif_pos h]
      have := valL_snoc [] (UInt8.ofNat (48 + m))
      rw [List.nil_append] at this
      rw [this, u8_nat (k := 48 + m) (by omega)]
      simp [valL]
    · rw [dif_neg h, valL_snoc, ih (m / 10) (by omega), u8_nat (k := 48 + m % 10) (by omega)]
      omega
theorem dec_len18 {m : Nat} (h : m < 1000000000000000000) : (Lib.decDigits m).length ≤ 18 := by
  rw [Lib.decDigits_length]
  have : ∀ k u : Nat, Lib.nDigits u = k + 1 → 10 ^ k ≤ u ∨ k = 0 := by
    intro k
    induction k with
    | zero => intro u _; exact .inr rfl
    | succ k ih =>
      intro u hu
      by_cases h10 : u < 10
      · rw [Lib.nDigits_small h10] at hu; omega
      · rw [Lib.nDigits_big h10] at hu
        left
        rcases ih (u / 10) (by omega) with h2 | h2
        · rw [Nat.pow_succ]; omega
        · subst h2; simp; omega
  rcases Nat.lt_or_ge (Lib.nDigits m) 19 with h1 | h1
  · omega
  · exfalso
    have h2 : 10 ^ 18 ≤ m := by
      rcases this (Lib.nDigits m - 1) m (by have := Lib.nDigits_pos m; omega) with h3 | h3
      · exact Nat.le_trans (Nat.pow_le_pow_right (by decide) (by omega)) h3
      · omega
    have : (10 : Nat) ^ 18 = 1000000000000000000 := by decide
    omega
theorem dec_pos (m : Nat) : 1 ≤ (Lib.decDigits m).length := by rw [Lib.decDigits_length]; exact Lib.nDigits_pos m
/-- The numbers that have a text that is read. -/
def In18 (n : Int) : Prop := -999999999999999999 ≤ n ∧ n ≤ 999999999999999999
/-- The text without its sign. -/
def bodyL (s : List UInt8) : List UInt8 := if s.head? = some 45 then s.tail else s
theorem itoa_body {n : Int} (h : In18 n) : bodyL (Lib.itoa n) = Lib.decDigits n.natAbs ∧ ((Lib.itoa n).head? = some 45 ↔ n < 0) := by
  unfold In18 at h
  unfold Lib.itoa bodyL
  by_cases hn : n < 0
  · rw [if_pos hn]
    simp [hn]
  · rw [if_neg hn]
    have hd := dec_dgt n.toNat
    have e : n.toNat = n.natAbs := by omega
    have hh : (Lib.decDigits n.toNat).head? ≠ some 45 := by
      intro hc
      have hm := List.mem_of_head? hc
      have := hd 45 hm
      unfold dgt at this
      simp at this
    rw [if_neg hh]
    exact ⟨by rw [e], ⟨fun h => absurd h hh, fun h => absurd h hn⟩⟩
/-- What is read of a body of digits, with its sign. -/
def sgn (s : List UInt8) (v : Nat) : Int := if s.head? = some 45 then -(v : Int) else v
theorem read_back {s : List UInt8} {n : Int} (h : In18 n) (hs : Lib.itoa n = s) : 1 ≤ (bodyL s).length ∧ (bodyL s).length ≤ 18 ∧ (∀ c ∈ bodyL s, dgt c) ∧ sgn s (valL (bodyL s)) = n := by
  obtain ⟨h1, h2⟩ := itoa_body h
  subst hs
  unfold In18 at h
  rw [h1]
  refine ⟨dec_pos _, dec_len18 (by omega), dec_dgt _, ?_⟩
  rw [val_dec]
  unfold sgn
  by_cases hn : n < 0
  · rw [if_pos (h2.2 hn)]; omega
  · rw [if_neg (fun h => hn (h2.1 h))]; omega
end Go.Proofs.YtkgfaemdgmmdkaaGreatDoor.Gx
