/- Lists of texts: slices.Contains and Has; the faults of a link. -/
import Derived.Test.YteojmhfocdlnoaaDoorTrGha
namespace Go.Proofs.YteojmhfocdlnoaaDoor.Tr
open Go.Proofs.YteojmhfocdlnoaaDoor
open Go.RowKit
attribute [local go_sem] After.cell After.frozen After.lt After.le After.ne After.ne' After.set_eq After.size_set After.lt_add tx_size tx_toList

/-- Where a slice's texts lie. -/
def TAt (W : World) (a : Option Addr) (n : Nat) (gs : Nat → List UInt8) : Prop := ∀ k, k < n → ∃ b off, a = some ⟨b, off, none⟩ ∧ b < W.heap.size ∧ W.cell? ⟨b, off + k, none⟩ = some (.string (tx (gs k)))
theorem TAt.on {w W : World} {a : Option Addr} {n : Nat} {gs : Nat → List UInt8} (h : TAt w a n gs) (hb : Below w.heap.size w W) : TAt W a n gs := fun k hk => by
  obtain ⟨b, off, e, h1, h2⟩ := h k hk
  exact ⟨b, off, e, Nat.lt_of_lt_of_le h1 hb.size, (hb.cell (p := ⟨b, off + k, none⟩) h1).trans h2⟩
set_option maxRecDepth 100000 in
set_option maxHeartbeats 2000000 in
theorem indexT_any (a : Option Addr) (n cap : Nat) (gs : Nat → List UInt8) (m : List UInt8) (w : World) (hA : TAt w a n gs) (hn : n ≤ 9223372036854775807) :
    Calls Tryd.prog 51 #[.slice a n cap, .string (tx m)] w fun e w' => e = .returned (.int .i64 (ixL n gs m)) ∧ Below w.heap.size w w' := by
  have hnI : (n : Int) ≤ 9223372036854775807 := by omega
  have HA := Lib.hid hA
  clear hA hn
  go_enter Tryd.func51, Tryd.ntmps51
  go_wp2
  go_loopw [5, 8] (fun _ i W => ∃ k : Nat, k ≤ n ∧ i = .int .i64 k ∧ Hid (∀ j, j < k → gs j ≠ m) ∧ ∃ x : After w, W = x.w) (fun _ i _ => n - (intOf i).toNat)
  case atStart => exact ⟨0, Nat.zero_le _, rfl, Lib.hid (fun j hj => by omega), ⟨w, Below.refl _ _⟩, rfl⟩
  case round =>
    obtain ⟨k, hk, rfl, HT, x, rfl⟩ := hrel
    by_cases hlt : k < n
    · have hlti : (k : Int) < (n : Int) := by omega
      obtain ⟨b, off, rfl, hb, c0⟩ := (HA.out.on x.out) k hlt
      by_cases e : gs k = m
      · have HF : Hid (fdN gs n m = some k) := Lib.hid (fdN_some.2 ⟨hlt, e, HT.out⟩)
        have he : (m == gs k) = true := by simp [e]
        clear e
        go_wp2
        go_returns
        exact ⟨by unfold ixL; rw [HF.out]; rfl, by (repeat' (first | (with_reducible exact Below.refl _ _) | (with_reducible assumption) | (with_reducible refine Below.alloc ?_ ?_ _) | (with_reducible refine Below.drew ?_) | (with_reducible refine below_drewN ?_ _) | (with_reducible refine Below.setCell ?_ ?_ _) | (with_reducible refine below_after ?_ ?_ _) | (with_reducible refine below_set ?_) | (with_reducible refine After.size_le _ ?_) | (with_reducible refine size_alloc_le ?_) | (with_reducible refine size_set_le ?_) | (with_reducible refine size_drewN_le ?_) | go_size))⟩
      · have he : (m == gs k) = false := by simp; exact fun q => e q.symm
        have HE := Lib.hid e
        clear e
        go_wp2
        go_roundw
        case rel => exact ⟨k + 1, by omega, by go_num, Lib.hid (fun j hj => by
          by_cases e2 : j = k
          · subst e2; exact HE.out
          · exact HT.out j (by omega)), x, rfl⟩
        case measure => simp [intOf]; omega
    · obtain rfl : k = n := by omega
      have HF := Lib.hid (fdN_none.2 HT.out)
      go_wp2
      go_returns
      exact ⟨by unfold ixL; rw [HF.out]; rfl, by (repeat' (first | (with_reducible exact Below.refl _ _) | (with_reducible assumption) | (with_reducible refine Below.alloc ?_ ?_ _) | (with_reducible refine Below.drew ?_) | (with_reducible refine below_drewN ?_ _) | (with_reducible refine Below.setCell ?_ ?_ _) | (with_reducible refine below_after ?_ ?_ _) | (with_reducible refine below_set ?_) | (with_reducible refine After.size_le _ ?_) | (with_reducible refine size_alloc_le ?_) | (with_reducible refine size_set_le ?_) | (with_reducible refine size_drewN_le ?_) | go_size))⟩
set_option maxRecDepth 100000 in
set_option maxHeartbeats 1000000 in
theorem containsT_any (a : Option Addr) (n cap : Nat) (gs : Nat → List UInt8) (m : List UInt8) (w : World) (hA : TAt w a n gs) (hn : n ≤ 9223372036854775807) :
    Calls Tryd.prog 45 #[.slice a n cap, .string (tx m)] w fun e w' => e = .returned (.bool (fdN gs n m).isSome) ∧ Below w.heap.size w w' := by
  have HI := Lib.hid (indexT_any a n cap gs m w hA hn)
  unfold ixL at HI
  clear hA
  cases hf : fdN gs n m
  · rw [hf] at HI
    clear hf
    go_enter Tryd.func45, Tryd.ntmps45
    go_wp2_with fail
    refine calls_after HI.out ?_
    intro x1
    go_wp2
    go_ret
    exact ⟨rfl, by (repeat' (first | (with_reducible exact Below.refl _ _) | (with_reducible assumption) | (with_reducible refine Below.alloc ?_ ?_ _) | (with_reducible refine Below.drew ?_) | (with_reducible refine below_drewN ?_ _) | (with_reducible refine Below.setCell ?_ ?_ _) | (with_reducible refine below_after ?_ ?_ _) | (with_reducible refine below_set ?_) | (with_reducible refine After.size_le _ ?_) | (with_reducible refine size_alloc_le ?_) | (with_reducible refine size_set_le ?_) | (with_reducible refine size_drewN_le ?_) | go_size))⟩
  · rename_i i
    rw [hf] at HI
    clear hf
    have hi : (0 : Int) ≤ ((i : Nat) : Int) := by omega
    go_enter Tryd.func45, Tryd.ntmps45
    go_wp2_with fail
    refine calls_after HI.out ?_
    intro x1
    go_wp2
    go_ret
    exact ⟨rfl, by (repeat' (first | (with_reducible exact Below.refl _ _) | (with_reducible assumption) | (with_reducible refine Below.alloc ?_ ?_ _) | (with_reducible refine Below.drew ?_) | (with_reducible refine below_drewN ?_ _) | (with_reducible refine Below.setCell ?_ ?_ _) | (with_reducible refine below_after ?_ ?_ _) | (with_reducible refine below_set ?_) | (with_reducible refine After.size_le _ ?_) | (with_reducible refine size_alloc_le ?_) | (with_reducible refine size_set_le ?_) | (with_reducible refine size_drewN_le ?_) | go_size))⟩
/-- An item as one value. -/
def itmV (M : List UInt8) (L D : Int) (B : List UInt8) : Value := .agg #[.string (tx M), .int .i64 L, .int .i64 D, .string (tx B)]
set_option maxRecDepth 100000 in
set_option maxHeartbeats 1000000 in
theorem fault1_any (M B : List UInt8) (L D c day : Int) (Bd : Nat) (w : World) (hd : w.cell? ⟨Bd, 0, none⟩ = some (.int .i64 day)) :
    Calls Tryd.prog 43 #[.agg #[.string (tx M), .int .i64 L, .int .i64 D, .string (tx B)], .int .i64 c, .pointer (some ⟨Bd, 0, none⟩)] w fun e w' => e = .returned (.bool (decide (D < day))) ∧ Below w.heap.size w w' := by
  have hd2 := (((Below.refl w.heap.size w).alloc (Nat.le_refl _) (.cells #[.string (tx M), .int .i64 L, .int .i64 D, .string (tx B)] 38)).cell (p := ⟨Bd, 0, none⟩) (World.block_lt_of_cell? w _ hd)).trans hd
  go_enter Tryd.func43, Tryd.ntmps43
  go_wp2
  go_returns
  exact ⟨rfl, by (repeat' (first | (with_reducible exact Below.refl _ _) | (with_reducible assumption) | (with_reducible refine Below.alloc ?_ ?_ _) | (with_reducible refine Below.drew ?_) | (with_reducible refine below_drewN ?_ _) | (with_reducible refine Below.setCell ?_ ?_ _) | (with_reducible refine below_after ?_ ?_ _) | (with_reducible refine below_set ?_) | (with_reducible refine After.size_le _ ?_) | (with_reducible refine size_alloc_le ?_) | (with_reducible refine size_set_le ?_) | (with_reducible refine size_drewN_le ?_) | go_size))⟩
set_option maxRecDepth 100000 in
set_option maxHeartbeats 1000000 in
theorem fault2_any (M B : List UInt8) (L D c : Int) (Bk : Nat) (ab : Option Addr) (nb cb : Nat) (gs : Nat → List UInt8) (w : World) (hk : w.cell? ⟨Bk, 0, none⟩ = some (.slice ab nb cb)) (hT : TAt w ab nb gs) (hn : nb ≤ 9223372036854775807) :
    Calls Tryd.prog 44 #[.agg #[.string (tx M), .int .i64 L, .int .i64 D, .string (tx B)], .int .i64 c, .pointer (some ⟨Bk, 0, none⟩)] w fun e w' => e = .returned (.bool (fdN gs nb B).isSome) ∧ Below w.heap.size w w' := by
  have hb := ((Below.refl w.heap.size w).alloc (Nat.le_refl _) (.cells #[.string (tx M), .int .i64 L, .int .i64 D, .string (tx B)] 38))
  have hd2 := (hb.cell (p := ⟨Bk, 0, none⟩) (World.block_lt_of_cell? w _ hk)).trans hk
  have HC := Lib.hid (containsT_any ab nb cb gs B _ (hT.on hb) hn)
  clear hT
  go_enter Tryd.func44, Tryd.ntmps44
  go_wp2_with fail
  refine HC.out.mono ?_
  rintro e w2 ⟨rfl, hb2⟩
  have HB := Lib.hid (hb.trans (hb2.mono (by simp)))
  clear hb hb2 hd2
  go_wp2
  go_returns
  exact ⟨rfl, HB.out⟩
set_option maxRecDepth 100000 in
set_option maxHeartbeats 1000000 in
theorem fault3_any (M B : List UInt8) (L D c : Int) (w : World) :
    Calls Tryd.prog 46 #[.agg #[.string (tx M), .int .i64 L, .int .i64 D, .string (tx B)], .int .i64 c] w fun e w' => e = .returned (.bool (decide (L < c))) ∧ Below w.heap.size w w' := by
  go_enter Tryd.func46, Tryd.ntmps46
  go_wp2
  go_returns
  exact ⟨rfl, by (repeat' (first | (with_reducible exact Below.refl _ _) | (with_reducible assumption) | (with_reducible refine Below.alloc ?_ ?_ _) | (with_reducible refine Below.drew ?_) | (with_reducible refine below_drewN ?_ _) | (with_reducible refine Below.setCell ?_ ?_ _) | (with_reducible refine below_after ?_ ?_ _) | (with_reducible refine below_set ?_) | (with_reducible refine After.size_le _ ?_) | (with_reducible refine size_alloc_le ?_) | (with_reducible refine size_set_le ?_) | (with_reducible refine size_drewN_le ?_) | go_size))⟩
end Go.Proofs.YteojmhfocdlnoaaDoor.Tr
