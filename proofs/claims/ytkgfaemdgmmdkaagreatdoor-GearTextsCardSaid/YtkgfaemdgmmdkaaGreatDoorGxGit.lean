/- Items of gear in memory; an item's validity; find of the reference. -/
import Derived.Test.YtkgfaemdgmmdkaaGreatDoorGxGna
namespace Go.Proofs.YtkgfaemdgmmdkaaGreatDoor.Gx
open Go.Proofs.YtkgfaemdgmmdkaaGreatDoor
open Go.RowKit
attribute [local go_sem] After.cell After.frozen After.lt After.le After.ne After.ne' After.set_eq After.size_set After.lt_add tx_size tx_toList

/-- Where a slice's items lie. -/
def ItAt (W : World) (a : Option Addr) (n : Nat) (gm : Nat → List UInt8) (gl gd : Nat → Int) (gb : Nat → List UInt8) : Prop := ∀ k, k < n → ∃ b off, a = some ⟨b, off, none⟩ ∧ b < W.heap.size ∧
  W.cell? ⟨b, off + k * 4, none⟩ = some (.string (tx (gm k))) ∧ W.cell? ⟨b, off + k * 4 + 1, none⟩ = some (.int .i64 (gl k)) ∧ W.cell? ⟨b, off + k * 4 + 2, none⟩ = some (.int .i64 (gd k)) ∧ W.cell? ⟨b, off + k * 4 + 3, none⟩ = some (.string (tx (gb k)))
section
variable {w W : World} {a : Option Addr} {n : Nat} {gm : Nat → List UInt8} {gl gd : Nat → Int} {gb : Nat → List UInt8}
theorem ItAt.on (h : ItAt w a n gm gl gd gb) (hb : Below w.heap.size w W) : ItAt W a n gm gl gd gb := fun k hk => by
  obtain ⟨b, off, e, h1, h2, h3, h4, h5⟩ := h k hk
  exact ⟨b, off, e, Nat.lt_of_lt_of_le h1 hb.size, (hb.cell (p := ⟨b, off + k * 4, none⟩) h1).trans h2, (hb.cell (p := ⟨b, off + k * 4 + 1, none⟩) h1).trans h3, (hb.cell (p := ⟨b, off + k * 4 + 2, none⟩) h1).trans h4, (hb.cell (p := ⟨b, off + k * 4 + 3, none⟩) h1).trans h5⟩
end
/-- Strings that are not too long. -/
def Sht (n : Nat) (g : Nat → List UInt8) : Prop := ∀ k, k < n → (g k).length ≤ 9223372036854775807
/-- A valid item. -/
def okI (m : List UInt8) (l d : Int) (b : List UInt8) : Bool := nmB m && decide (Btw l 1 1000000) && decide (Btw d 0 100000) && nmB b
/-- The first index with a mark. -/
def fdN (gm : Nat → List UInt8) : Nat → List UInt8 → Option Nat
  | 0, _ => none
  | k + 1, m => match fdN gm k m with
    | some i => some i
    | none => if gm k = m then some k else none
def fdI (gm : Nat → List UInt8) (n : Nat) (m : List UInt8) : Int := match fdN gm n m with
  | some i => (i : Nat)
  | none => -1
section
variable {gm : Nat → List UInt8} {n : Nat} {m : List UInt8}
theorem fdN_none : fdN gm n m = none ↔ ∀ i, i < n → gm i ≠ m := by
  induction n with
  | zero => exact ⟨fun _ i hi => by omega, fun _ => rfl⟩
  | succ k ih =>
    unfold fdN
    cases hf : fdN gm k m with
    | some j =>
      simp only [reduceCtorEq, false_iff]
      intro h
      have h1 := ih.2 (fun i hi => h i (by omega))
      rw [hf] at h1
      cases h1
    | none =>
      have h0 := ih.1 hf
      by_cases e : gm k = m
      · simp only [e, if_true, reduceCtorEq, false_iff]
        exact fun h => h k (by omega) e
      · simp only [e, if_false, true_iff]
        intro i hi
        by_cases e2 : i = k
        · subst e2; exact e
        · exact h0 i (by omega)
theorem fdN_some' {j : Nat} (h : fdN gm n m = some j) : j < n ∧ gm j = m := by
  induction n with
  | zero => cases h
  | succ k ih =>
    unfold fdN at h
    cases hf : fdN gm k m with
    | some i =>
      rw [hf] at h ih
      cases h
      have := ih rfl
      exact ⟨by omega, this.2⟩
    | none =>
      rw [hf] at h
      by_cases e : gm k = m
      · simp only [e, if_true, Option.some.injEq] at h
        subst h
        exact ⟨by omega, e⟩
      · simp only [e, if_false] at h
        cases h
theorem fdN_some {i : Nat} : fdN gm n m = some i ↔ i < n ∧ gm i = m ∧ ∀ j, j < i → gm j ≠ m := by
  induction n with
  | zero => exact ⟨(fun h => by cases h), fun h => by omega⟩
  | succ k ih =>
    unfold fdN
    cases hf : fdN gm k m with
    | some j =>
      rw [hf] at ih
      simp only [Option.some.injEq] at ih ⊢
      constructor
      · intro e
        have := ih.1 e
        exact ⟨by omega, this.2⟩
      · intro h
        by_cases e2 : i < k
        · exact ih.2 ⟨e2, h.2⟩
        · exfalso
          have h3 := fdN_some' hf
          exact h.2.2 j (by omega) h3.2
    | none =>
      have h0 := fdN_none.1 hf
      by_cases e : gm k = m
      · simp only [e, if_true, Option.some.injEq]
        constructor
        · rintro rfl
          exact ⟨by omega, e, fun j hj => h0 j hj⟩
        · rintro ⟨h1, h2, _⟩
          by_cases e2 : i < k
          · exact absurd h2 (h0 i e2)
          · omega
      · simp only [e, if_false, reduceCtorEq, false_iff]
        rintro ⟨h1, h2, _⟩
        by_cases e2 : i = k
        · subst e2; exact e h2
        · exact h0 i (by omega) h2
theorem fdI_lt (h : n ≤ 1000) : -1 ≤ fdI gm n m ∧ fdI gm n m < 1000 := by
  unfold fdI
  cases hf : fdN gm n m with
  | none => simp
  | some j => have := fdN_some' hf; dsimp only; omega
end
set_option maxRecDepth 100000 in
set_option maxHeartbeats 2000000 in
theorem rfind_any (a : Option Addr) (n cap : Nat) (gm : Nat → List UInt8) (gl gd : Nat → Int) (gb : Nat → List UInt8) (m : List UInt8) (w : World) (hA : ItAt w a n gm gl gd gb) (hn : n ≤ 9223372036854775807) :
    Calls Tryz.prog 27 #[.slice a n cap, .string (tx m)] w fun e w' => e = .returned (.int .i64 (fdI gm n m)) ∧ Below w.heap.size w w' := by
  have hnI : (n : Int) ≤ 9223372036854775807 := by omega
  have HA := Lib.hid hA
  clear hA
  go_enter Tryz.func27, Tryz.ntmps27
  go_wp2
  go_loopw [5] (fun i W => ∃ k : Nat, k ≤ n ∧ i = .int .i64 k ∧ Hid (∀ j, j < k → gm j ≠ m) ∧ Hid (Below w.heap.size w W)) (fun i _ => n - (intOf i).toNat)
  case atStart => exact ⟨0, Nat.zero_le _, rfl, Lib.hid (fun j hj => by omega), Lib.hid (Below.refl _ _)⟩
  case round =>
    obtain ⟨k, hk, rfl, HT, HB⟩ := hrel
    by_cases hlt : k < n
    · have hlti : (k : Int) < (n : Int) := by omega
      obtain ⟨b, off, rfl, hb, c0, _, _, _⟩ := (HA.out.on HB.out) k hlt
      by_cases e : gm k = m
      · have he : (gm k == m) = true := by simp [e]
        have HF : Hid (fdN gm n m = some k) := Lib.hid (fdN_some.2 ⟨hlt, e, HT.out⟩)
        clear e
        go_wp2
        go_returns
        exact ⟨by unfold fdI; rw [HF.out]; rfl, HB.out⟩
      · have he : (gm k == m) = false := by simp [e]
        have HE := Lib.hid e
        clear e
        go_wp2
        go_roundw
        case rel => exact ⟨k + 1, by omega, by go_num, Lib.hid (fun j hj => by
          by_cases e2 : j = k
          · subst e2; exact HE.out
          · exact HT.out j (by omega)), HB⟩
        case measure => simp [intOf]; omega
    · obtain rfl : k = n := by omega
      have HF := Lib.hid (fdN_none.2 HT.out)
      go_wp2
      go_returns
      exact ⟨by unfold fdI; rw [HF.out]; rfl, HB.out⟩
theorem validDay_any (d : Int) (w : World) :
    Calls Tryz.prog 62 #[.int .i64 d] w fun e w' => e = .returned (.bool (decide (Btw d 0 100000))) ∧ w = w' := by
  have hW := fun W => between_any d 0 100000 W
  generalize decide (Btw d 0 100000) = x at *
  go_enter Tryz.func62, Tryz.ntmps62
  go_wp2_with (go_at_call 30; refine (hW _).mono ?_; rintro e w' ⟨rfl, rfl⟩)
  go_ret
  exact ⟨rfl, rfl⟩
set_option maxRecDepth 100000 in
set_option maxHeartbeats 2000000 in
theorem validItem_any (m : List UInt8) (l d : Int) (b : List UInt8) (hm : m.length ≤ 9223372036854775807) (hb : b.length ≤ 9223372036854775807) (w : World) :
    Calls Tryz.prog 48 #[.agg #[.string (tx m), .int .i64 l, .int .i64 d, .string (tx b)]] w fun e w' => e = .returned (.bool (okI m l d b)) ∧ Below w.heap.size w w' := by
  have H1 := Lib.hid (fun W => isName_any m hm W)
  have H2 := Lib.hid (fun W => isName_any b hb W)
  have H3 := fun W => between_any l 1 1000000 W
  have H4 := fun W => validDay_any d W
  unfold okI
  generalize nmB m = b1 at *
  generalize nmB b = b2 at *
  generalize decide (Btw l 1 1000000) = b3 at *
  generalize decide (Btw d 0 100000) = b4 at *
  cases b1 <;> cases b3 <;> cases b4
  all_goals
    go_enter Tryz.func48, Tryz.ntmps48
    go_wp2_with (first | (go_at_call 30; refine (H3 _).mono ?_; rintro e w' ⟨rfl, rfl⟩) | (go_at_call 62; refine (H4 _).mono ?_; rintro e w' ⟨rfl, rfl⟩) | (go_at_call 61; with_reducible refine calls_after (H1.out _) ?_; intro x1) | (go_at_call 61; with_reducible refine calls_after2 (H2.out _) ?_; intro x2))
    go_ret
    exact ⟨rfl, by (repeat' (first | (with_reducible exact Below.refl _ _) | (with_reducible assumption) | (with_reducible refine Below.alloc ?_ ?_ _) | (with_reducible refine Below.drew ?_) | (with_reducible refine below_drewN ?_ _) | (with_reducible refine Below.setCell ?_ ?_ _) | (with_reducible refine below_after ?_ ?_ _) | (with_reducible refine below_set ?_) | (with_reducible refine After.size_le _ ?_) | (with_reducible refine size_alloc_le ?_) | (with_reducible refine size_set_le ?_) | (with_reducible refine size_drewN_le ?_) | go_size))⟩
end Go.Proofs.YtkgfaemdgmmdkaaGreatDoor.Gx
