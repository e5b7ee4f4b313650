/- Links in memory; has, mayHang; validRig of the reference. -/
import Derived.Test.YtkgfaemdgmmdkaaGreatDoorGxGfi
namespace Go.Proofs.YtkgfaemdgmmdkaaGreatDoor.Gx
open Go.Proofs.YtkgfaemdgmmdkaaGreatDoor
open Go.RowKit
attribute [local go_sem] After.cell After.frozen After.lt After.le After.ne After.ne' After.set_eq After.size_set After.lt_add tx_size tx_toList

/-- Where a slice's links lie. -/
def LkAt (W : World) (a : Option Addr) (n : Nat) (lm : Nat → List UInt8) (lf : Nat → Int) : Prop := ∀ k, k < n → ∃ b off, a = some ⟨b, off, none⟩ ∧ b < W.heap.size ∧
  W.cell? ⟨b, off + k * 2, none⟩ = some (.string (tx (lm k))) ∧ W.cell? ⟨b, off + k * 2 + 1, none⟩ = some (.int .i64 (lf k))
theorem LkAt.on {w W : World} {a : Option Addr} {n : Nat} {lm : Nat → List UInt8} {lf : Nat → Int} (h : LkAt w a n lm lf) (hb : Below w.heap.size w W) : LkAt W a n lm lf := fun k hk => by
  obtain ⟨b, off, e, h1, h2, h3⟩ := h k hk
  exact ⟨b, off, e, Nat.lt_of_lt_of_le h1 hb.size, (hb.cell (p := ⟨b, off + k * 2, none⟩) h1).trans h2, (hb.cell (p := ⟨b, off + k * 2 + 1, none⟩) h1).trans h3⟩
theorem LkAt.less {W : World} {a : Option Addr} {n m : Nat} {lm : Nat → List UInt8} {lf : Nat → Int} (h : LkAt W a n lm lf) (hm : m ≤ n) : LkAt W a m lm lf := fun k hk => h k (by omega)

set_option maxRecDepth 100000 in
set_option maxHeartbeats 1000000 in
theorem hasf_any (x m : List UInt8) (f : Int) (B : Nat) (w : World) (h0 : w.cell? ⟨B, 0, none⟩ = some (.string (tx m))) :
    Calls Tryz.prog 57 #[.agg #[.string (tx x), .int .i64 f], .pointer (some ⟨B, 0, none⟩)] w fun e w' => e = .returned (.bool (x == m)) ∧ Below w.heap.size w w' := by
  have hB := World.block_lt_of_cell? _ _ h0
  go_enter Tryz.func57, Tryz.ntmps57
  go_wp2
  go_ret
  exact ⟨rfl, by (repeat' (first | (with_reducible exact Below.refl _ _) | (with_reducible assumption) | (with_reducible refine Below.alloc ?_ ?_ _) | (with_reducible refine Below.drew ?_) | (with_reducible refine below_drewN ?_ _) | (with_reducible refine Below.setCell ?_ ?_ _) | (with_reducible refine below_after ?_ ?_ _) | (with_reducible refine below_set ?_) | (with_reducible refine After.size_le _ ?_) | (with_reducible refine size_alloc_le ?_) | (with_reducible refine size_set_le ?_) | (with_reducible refine size_drewN_le ?_) | go_size))⟩
/-- The first index at which a list of links holds what is asked. -/
def ixL (n : Nat) (g : Nat → List UInt8) (m : List UInt8) : Int := match fdN g n m with
  | some i => (i : Nat)
  | none => -1
set_option maxRecDepth 100000 in
set_option maxHeartbeats 2000000 in
theorem indexLink_any (a : Option Addr) (n cap : Nat) (lm : Nat → List UInt8) (lf : Nat → Int) (m : List UInt8) (B : Nat) (w : World) (hA : LkAt w a n lm lf) (hn : n ≤ 9223372036854775807) (h0 : w.cell? ⟨B, 0, none⟩ = some (.string (tx m))) :
    Calls Tryz.prog 74 #[.slice a n cap, .func (.func 57) #[] #[.pointer (some ⟨B, 0, none⟩)]] w fun e w' => e = .returned (.int .i64 (ixL n lm m)) ∧ Below w.heap.size w w' := by
  have hnI : (n : Int) ≤ 9223372036854775807 := by omega
  have HA := Lib.hid hA
  have hB := World.block_lt_of_cell? _ _ h0
  have H0 := Lib.hid (fun x f W (hW : Below w.heap.size w W) => hasf_any x m f B W ((hW.cell (p := ⟨B, 0, none⟩) hB).trans h0))
  clear hA h0 hB hn
  go_enter Tryz.func74, Tryz.ntmps74
  go_wp2
  go_loopw [5, 8] (fun _ i W => ∃ k : Nat, k ≤ n ∧ i = .int .i64 k ∧ Hid (∀ j, j < k → lm j ≠ m) ∧ ∃ x : After w, W = x.w) (fun _ i _ => n - (intOf i).toNat)
  case atStart => exact ⟨0, Nat.zero_le _, rfl, Lib.hid (fun j hj => by omega), ⟨w, Below.refl _ _⟩, rfl⟩
  case round =>
    obtain ⟨k, hk, rfl, HT, x, rfl⟩ := hrel
    by_cases hlt : k < n
    · have hlti : (k : Int) < (n : Int) := by omega
      obtain ⟨b, off, rfl, hb, c0, c1⟩ := (HA.out.on x.out) k hlt
      have HC := Lib.hid (fun W (hW : Below w.heap.size w W) => H0.out (lm k) (lf k) W hW)
      by_cases e : lm k = m
      · have HF : Hid (fdN lm n m = some k) := Lib.hid (fdN_some.2 ⟨hlt, e, HT.out⟩)
        have he : (lm k == m) = true := by simp [e]
        rw [he] at HC
        clear e he
        go_wp2_with fail
        refine calls_after2 (HC.out _ x.out) ?_
        intro y
        go_wp2
        go_returns
        exact ⟨by unfold ixL; rw [HF.out]; rfl, by (repeat' (first | (with_reducible exact Below.refl _ _) | (with_reducible assumption) | (with_reducible refine Below.alloc ?_ ?_ _) | (with_reducible refine Below.drew ?_) | (with_reducible refine below_drewN ?_ _) | (with_reducible refine Below.setCell ?_ ?_ _) | (with_reducible refine below_after ?_ ?_ _) | (with_reducible refine below_set ?_) | (with_reducible refine After.size_le _ ?_) | (with_reducible refine size_alloc_le ?_) | (with_reducible refine size_set_le ?_) | (with_reducible refine size_drewN_le ?_) | go_size))⟩
      · have he : (lm k == m) = false := by simp [e]
        have HE := Lib.hid e
        rw [he] at HC
        clear e he
        go_wp2_with fail
        refine calls_after2 (HC.out _ x.out) ?_
        intro y
        go_wp2
        go_roundw
        case rel => exact ⟨k + 1, by omega, by go_num, Lib.hid (fun j hj => by
          by_cases e2 : j = k
          · subst e2; exact HE.out
          · exact HT.out j (by omega)), y, rfl⟩
        case measure => simp [intOf]; omega
    · obtain rfl : k = n := by omega
      have HF := Lib.hid (fdN_none.2 HT.out)
      go_wp2
      go_returns
      exact ⟨by unfold ixL; rw [HF.out]; rfl, by (repeat' (first | (with_reducible exact Below.refl _ _) | (with_reducible assumption) | (with_reducible refine Below.alloc ?_ ?_ _) | (with_reducible refine Below.drew ?_) | (with_reducible refine below_drewN ?_ _) | (with_reducible refine Below.setCell ?_ ?_ _) | (with_reducible refine below_after ?_ ?_ _) | (with_reducible refine below_set ?_) | (with_reducible refine After.size_le _ ?_) | (with_reducible refine size_alloc_le ?_) | (with_reducible refine size_set_le ?_) | (with_reducible refine size_drewN_le ?_) | go_size))⟩
set_option maxRecDepth 100000 in
set_option maxHeartbeats 1000000 in
theorem has_any (a : Option Addr) (n cap : Nat) (lm : Nat → List UInt8) (lf : Nat → Int) (m : List UInt8) (w : World) (hA : LkAt w a n lm lf) (hn : n ≤ 9223372036854775807) :
    Calls Tryz.prog 44 #[.slice a n cap, .string (tx m)] w fun e w' => e = .returned (.bool (fdN lm n m).isSome) ∧ Below w.heap.size w w' := by
  have HC : Hid (∀ B W, Below w.heap.size w W → W.cell? ⟨B, 0, none⟩ = some (.string (tx m)) → Calls Tryz.prog 56 #[.slice a n cap, .func (.func 57) #[] #[.pointer (some ⟨B, 0, none⟩)]] W fun e w' => e = .returned (.bool (fdN lm n m).isSome) ∧ Below W.heap.size W w') := Lib.hid fun B W hW h0 => by
    have HI := Lib.hid (fun W' (hW' : Below W.heap.size W W') => indexLink_any a n cap lm lf m B W' ((hA.on hW).on hW') hn ((hW'.cell (p := ⟨B, 0, none⟩) (World.block_lt_of_cell? _ _ h0)).trans h0))
    unfold ixL at HI
    clear hA hW h0
    cases hf : fdN lm n m
    · rw [hf] at HI
      clear hf
      go_enter Tryz.func56, Tryz.ntmps56
      go_wp2_with fail
      refine calls_after (HI.out _ (by (repeat' (first | (with_reducible exact Below.refl _ _) | (with_reducible assumption) | (with_reducible refine Below.alloc ?_ ?_ _) | (with_reducible refine Below.drew ?_) | (with_reducible refine below_drewN ?_ _) | (with_reducible refine Below.setCell ?_ ?_ _) | (with_reducible refine below_after ?_ ?_ _) | (with_reducible refine below_set ?_) | (with_reducible refine After.size_le _ ?_) | (with_reducible refine size_alloc_le ?_) | (with_reducible refine size_set_le ?_) | (with_reducible refine size_drewN_le ?_) | go_size)))) ?_
      intro x1
      go_wp2
      go_ret
      exact ⟨rfl, by (repeat' (first | (with_reducible exact Below.refl _ _) | (with_reducible assumption) | (with_reducible refine Below.alloc ?_ ?_ _) | (with_reducible refine Below.drew ?_) | (with_reducible refine below_drewN ?_ _) | (with_reducible refine Below.setCell ?_ ?_ _) | (with_reducible refine below_after ?_ ?_ _) | (with_reducible refine below_set ?_) | (with_reducible refine After.size_le _ ?_) | (with_reducible refine size_alloc_le ?_) | (with_reducible refine size_set_le ?_) | (with_reducible refine size_drewN_le ?_) | go_size))⟩
    · rename_i i
      rw [hf] at HI
      clear hf
      have hi : (0 : Int) ≤ ((i : Nat) : Int) := by omega
      go_enter Tryz.func56, Tryz.ntmps56
      go_wp2_with fail
      refine calls_after (HI.out _ (by (repeat' (first | (with_reducible exact Below.refl _ _) | (with_reducible assumption) | (with_reducible refine Below.alloc ?_ ?_ _) | (with_reducible refine Below.drew ?_) | (with_reducible refine below_drewN ?_ _) | (with_reducible refine Below.setCell ?_ ?_ _) | (with_reducible refine below_after ?_ ?_ _) | (with_reducible refine below_set ?_) | (with_reducible refine After.size_le _ ?_) | (with_reducible refine size_alloc_le ?_) | (with_reducible refine size_set_le ?_) | (with_reducible refine size_drewN_le ?_) | go_size)))) ?_
      intro x1
      go_wp2
      go_ret
      exact ⟨rfl, by (repeat' (first | (with_reducible exact Below.refl _ _) | (with_reducible assumption) | (with_reducible refine Below.alloc ?_ ?_ _) | (with_reducible refine Below.drew ?_) | (with_reducible refine below_drewN ?_ _) | (with_reducible refine Below.setCell ?_ ?_ _) | (with_reducible refine below_after ?_ ?_ _) | (with_reducible refine below_set ?_) | (with_reducible refine After.size_le _ ?_) | (with_reducible refine size_alloc_le ?_) | (with_reducible refine size_set_le ?_) | (with_reducible refine size_drewN_le ?_) | go_size))⟩
  clear hA
  generalize (fdN lm n m).isSome = b at *
  go_enter Tryz.func44, Tryz.ntmps44
  go_wp2_with fail
  refine calls_after (HC.out _ _ (by (repeat' (first | (with_reducible exact Below.refl _ _) | (with_reducible assumption) | (with_reducible refine Below.alloc ?_ ?_ _) | (with_reducible refine Below.drew ?_) | (with_reducible refine below_drewN ?_ _) | (with_reducible refine Below.setCell ?_ ?_ _) | (with_reducible refine below_after ?_ ?_ _) | (with_reducible refine below_set ?_) | (with_reducible refine After.size_le _ ?_) | (with_reducible refine size_alloc_le ?_) | (with_reducible refine size_set_le ?_) | (with_reducible refine size_drewN_le ?_) | go_size))) (by simp [go_sem])) ?_
  intro x1
  go_wp2
  go_ret
  exact ⟨rfl, by (repeat' (first | (with_reducible exact Below.refl _ _) | (with_reducible assumption) | (with_reducible refine Below.alloc ?_ ?_ _) | (with_reducible refine Below.drew ?_) | (with_reducible refine below_drewN ?_ _) | (with_reducible refine Below.setCell ?_ ?_ _) | (with_reducible refine below_after ?_ ?_ _) | (with_reducible refine below_set ?_) | (with_reducible refine After.size_le _ ?_) | (with_reducible refine size_alloc_le ?_) | (with_reducible refine size_set_le ?_) | (with_reducible refine size_drewN_le ?_) | go_size))⟩
/-- From which link the i-th one may hang. -/
def mhB (i : Nat) (f : Int) : Bool := if i = 0 then decide (f = -1) else decide (0 ≤ f) && decide (f < i)
set_option maxRecDepth 100000 in
set_option maxHeartbeats 1000000 in
theorem mayHang_any (i : Nat) (f : Int) (hi : i ≤ 1000) (w : World) :
    Calls Tryz.prog 43 #[.int .i64 i, .int .i64 f] w fun e w' => e = .returned (.bool (mhB i f)) ∧ w = w' := by
  have hW := fun W => between_any f 0 ((i : Int) - 1) W
  have hw : IntKind.i64.wrap ((i : Int) - 1) = (i : Int) - 1 := by rw [IntKind.wrap_i64]; omega
  by_cases h : i = 0
  · have HQ : Hid (mhB i f = decide (f = -1)) := Lib.hid (by unfold mhB; rw [if_pos h])
    have h1 : ((i : Int) == 0) = true := by simp; omega
    clear h hw
    go_enter Tryz.func43, Tryz.ntmps43
    go_wp2
    go_ret
    exact ⟨by rw [HQ.out]; refine congrArg (fun b => Ending.returned (.bool b)) ?_; rw [Bool.eq_iff_iff]; simp, rfl⟩
  · have HQ : Hid (mhB i f = decide (Btw f 0 ((i : Int) - 1))) := Lib.hid (by
      unfold mhB
      rw [if_neg h, Bool.eq_iff_iff]
      simp only [Bool.and_eq_true, decide_eq_true_eq]
      unfold Btw
      omega)
    have h1 : ((i : Int) == 0) = false := by simp; omega
    clear h
    go_enter Tryz.func43, Tryz.ntmps43
    go_wp2_with (go_at_call 30; refine (hW _).mono ?_; rintro e w' ⟨rfl, rfl⟩)
    go_ret
    exact ⟨by rw [HQ.out]; rfl, rfl⟩
end Go.Proofs.YtkgfaemdgmmdkaaGreatDoor.Gx
