/- strconv.Atoi of a number's own text. -/
import Derived.Test.YtkgfaemdgmmdkaaGreatDoorGxNumt
import Derived.Lib.AtoiAll
namespace Go.Proofs.YtkgfaemdgmmdkaaGreatDoor.Gx
open Go.Proofs.YtkgfaemdgmmdkaaGreatDoor
open Go.RowKit

theorem fold_ge : ∀ (l : List UInt8) (a : Nat), a ≤ l.foldl (fun n c => 10 * n + (c.toNat - 48)) a
  | [], a => Nat.le_refl _
  | c :: r, a => by
    have := fold_ge r (10 * a + (c.toNat - 48))
    simp only [List.foldl_cons]
    omega
theorem parse_val : ∀ (l : List UInt8) (a : Nat), (∀ c ∈ l, dgt c) → l.foldl (fun n c => 10 * n + (c.toNat - 48)) a < 18446744073709551616 → Lib.parseUint10 a l = .ok (l.foldl (fun n c => 10 * n + (c.toNat - 48)) a)
  | [], a, _, _ => rfl
  | c :: r, a, hd, hv => by
    have hc := hd c (by simp)
    unfold dgt at hc
    simp only [List.foldl_cons] at hv ⊢
    have hge := fold_ge r (10 * a + (c.toNat - 48))
    have ih := parse_val r (10 * a + (c.toNat - 48)) (fun x hx => hd x (by simp [hx])) hv
    unfold Lib.parseUint10
    rw [if_pos hc, if_neg (by omega), if_neg (by omega), Nat.mul_comm a 10]
    exact ih
theorem parse_dec {m : Nat} (h : m < 18446744073709551616) : Lib.parseMag (Lib.decDigits m) = .ok m := by
  have hp := dec_pos m
  have hv := val_dec m
  unfold valL at hv
  unfold Lib.parseMag
  rw [if_neg (by intro e; rw [e] at hp; simp at hp), parse_val _ 0 (dec_dgt m) (by omega), hv]
def I64 (n : Int) : Prop := -9223372036854775808 ≤ n ∧ n ≤ 9223372036854775807
theorem atoi_cons {c : UInt8} {r : List UInt8} {u : Nat} (hp : Lib.parseMag (if c.toNat = 43 ∨ c.toNat = 45 then r else c :: r) = .ok u) :
    Lib.atoiAll (c :: r) = if ¬ c.toNat = 45 ∧ 9223372036854775808 ≤ u then .range else if c.toNat = 45 ∧ 9223372036854775808 < u then .range else .ok (if c.toNat = 45 then -(u : Int) else u) := by
  unfold Lib.atoiAll
  dsimp only
  rw [hp]
theorem atoi_itoa {n : Int} (h : I64 n) : Lib.atoiAll (Lib.itoa n) = .ok n := by
  unfold I64 at h
  unfold Lib.itoa
  split
  · have e : (45 : UInt8).toNat = 45 := rfl
    rw [atoi_cons (u := n.natAbs) (by rw [if_pos (Or.inr e)]; exact parse_dec (by omega)), if_neg (fun h => h.1 e), if_neg (fun h => by omega), if_pos e]
    exact congrArg _ (by omega)
  · have hm := parse_dec (m := n.toNat) (by omega)
    have hp := dec_pos n.toNat
    have hd := dec_dgt n.toNat
    generalize Lib.decDigits n.toNat = L at *
    match L, hp with
    | c :: r, _ =>
      have hc := hd c (by simp)
      unfold dgt at hc
      rw [atoi_cons (u := n.toNat) (by rw [if_neg (by omega)]; exact hm), if_neg (fun h => by omega), if_neg (fun h => by omega), if_neg (by omega)]
      exact congrArg _ (by omega)
theorem atoi_in {s : List UInt8} {v : Int} (h : Lib.atoiAll s = .ok v) : I64 v := by
  unfold I64
  unfold Lib.atoiAll at h
  split at h
  · cases h
  · dsimp only at h
    split at h
    · cases h
    · cases h
    · split at h
      · cases h
      · split at h
        · cases h
        · injection h with h
          split at h <;> omega
end Go.Proofs.YtkgfaemdgmmdkaaGreatDoor.Gx
