/- The sixth reference's Digits. -/
import Derived.Test.YtkgfaemdgmmdkaaGreatDoorGxDig
import Derived.Laws.IdiomStrings
import Derived.Test.YtkgfaemdgmmdkaaGreatDoorGxNumt
import Derived.Deep.RegionHeld3
namespace Go.Proofs.YtkgfaemdgmmdkaaGreatDoor.Gx
open Go.Proofs.YtkgfaemdgmmdkaaGreatDoor
open Go.RowKit
attribute [local go_sem] After.cell After.frozen After.lt After.le After.ne After.ne' After.set_eq After.size_set After.lt_add tx_size

theorem conv1 (d : UInt8) (W : World) (b : Nat) (h : W.cell? ⟨b, 0, none⟩ = some (.int .u8 (d.toNat : Nat))) :
    (convert 45 9 (.slice (some ⟨b, 0, none⟩) 1 1)).run Tryz.prog W = .ok (.string (tx [d])) W :=
  run_convert_bytes_back W 45 9 5 ⟨b, 0, none⟩ 1 [d] Tryz.underlying45 Tryz.underlying5 Tryz.underlying9 (fun j hj => by
    obtain rfl : j = 0 := by simpa using hj
    simpa [Addr.add] using h)
theorem wrap_dig {k : Nat} (h : k < 10) : IntKind.u8.wrap (48 + (k : Int)) = ((UInt8.ofNat (48 + k)).toNat : Nat) := by
  rw [show IntKind.u8.wrap (48 + (k : Int)) = (48 + (k : Int)) % 256 by simp [IntKind.wrap, IntKind.bits, IntKind.signed]]
  have := u8_nat (k := 48 + k) (by omega)
  omega
set_option maxRecDepth 100000 in
set_option maxHeartbeats 1000000 in
theorem dig6_one (N : Nat) (hN : N < 10) (w : World) :
    Calls Tryz.prog 24 #[.int .i64 N] w fun e w' => e = .returned (.string (tx (Lib.decDigits N))) ∧ Below w.heap.size w w' := by
  have e1 : Lib.decDigits N = [UInt8.ofNat (48 + N)] := Lib.decDigits_one (by omega)
  have hw := wrap_dig hN
  have hcv := conv1 (UInt8.ofNat (48 + N))
  have d0 : decide ((N : Int) < 0) = false := decide_eq_false (by omega)
  have d1 : decide ((N : Int) < 10) = true := decide_eq_true (by omega)
  have d2 : ((N : Int) == -9223372036854775808) = false := beq_eq_false_iff_ne.2 (by omega)
  rw [e1]
  generalize UInt8.ofNat (48 + N) = d at *
  clear e1
  go_enter Tryz.func24, Tryz.ntmps24
  go_wp2
  go_ret
  exact ⟨rfl, by (repeat' (first | (with_reducible exact Below.refl _ _) | (with_reducible assumption) | (with_reducible refine Below.alloc ?_ ?_ _) | (with_reducible refine Below.drew ?_) | (with_reducible refine below_drewN ?_ _) | (with_reducible refine Below.setCell ?_ ?_ _) | (with_reducible refine below_after ?_ ?_ _) | (with_reducible refine below_set ?_) | (with_reducible refine After.size_le _ ?_) | (with_reducible refine size_alloc_le ?_) | (with_reducible refine size_set_le ?_) | (with_reducible refine size_drewN_le ?_) | go_size))⟩
theorem kb_drew (w : World) : Below w.heap.size w w.drew := below_drawn w
theorem kb_alloc {w W : World} {o : Obj} (h : Below w.heap.size w W) : Below w.heap.size w (W.alloc o) := h.alloc h.size _
theorem kb_call {w W V : World} (h : Below w.heap.size w W) (k : Below W.heap.size W V) : Below w.heap.size w V := h.trans (k.mono h.size)
set_option maxRecDepth 100000 in
set_option maxHeartbeats 2000000 in
theorem dig6_step (N : Nat) (h10 : ¬ N < 10) (hN : (N : Int) ≤ 9223372036854775807) (w : World)
    (hk : ∀ W, Calls Tryz.prog 24 #[.int .i64 (N / 10 : Nat)] W fun e w' => e = .returned (.string (tx (Lib.decDigits (N / 10)))) ∧ Below W.heap.size W w') :
    Calls Tryz.prog 24 #[.int .i64 N] w fun e w' => e = .returned (.string (tx (Lib.decDigits N))) ∧ Below w.heap.size w w' := by
    have HK := Lib.hid hk
    clear hk
    have e1 : Lib.decDigits N = Lib.decDigits (N / 10) ++ [UInt8.ofNat (48 + N % 10)] := by rw [Lib.decDigits, dif_neg h10]
    have hw := wrap_dig (k := N % 10) (by omega)
    have hcv := conv1 (UInt8.ofNat (48 + N % 10))
    have d0 : decide ((N : Int) < 0) = false := decide_eq_false (by omega)
    have d1 : decide ((N : Int) < 10) = false := decide_eq_false (by omega)
    have d2 : ((N : Int) == -9223372036854775808) = false := beq_eq_false_iff_ne.2 (by omega)
    have hl := dec_len (N := N / 10) (by omega)
    rw [e1]
    have eq1 : ((N / 10 : Nat) : Int) = (N : Int) / 10 := rfl
    have htm : (N : Int).tmod 10 = ((N % 10 : Nat) : Int) := by rw [Int.tmod_eq_emod_of_nonneg (by omega)]; rfl
    have hm10 : N % 10 < 10 := by omega
    rw [eq1] at HK
    generalize UInt8.ofNat (48 + N % 10) = d at *
    generalize Lib.decDigits (N / 10) = D at *
    generalize N % 10 = m at *
    have hadd : ∀ w : World, (Op.stringOp .add (tx D) (tx [d])).run Tryz.prog w = .ok (.string (tx (D ++ [d]))) w := fun w => run_tx_add w D [d] (by omega) (by simp)
    have hwq : IntKind.i64.wrap ((N : Int) / 10) = (N : Int) / 10 := by rw [IntKind.wrap_i64]; omega
    have hwr : IntKind.i64.wrap (m : Int) = (m : Int) := by rw [IntKind.wrap_i64]; omega
    have hws : IntKind.i64.wrap (48 + (m : Int)) = 48 + (m : Int) := by rw [IntKind.wrap_i64]; omega
    clear e1 eq1 hl
    go_enter Tryz.func24, Tryz.ntmps24
    go_wp2_with fail
    go_region_with (go_at_call 24; refine (HK.out _).mono ?_; rintro e w1 ⟨rfl, hb1⟩; have hc1 := fun (b o : Nat) h => hb1.cell (p := ⟨b, o, none⟩) h)
    all_goals
      go_wp2
      go_ret
      exact ⟨rfl, by first | exact kb_alloc (kb_call (kb_drew w) (by assumption)) | exact kb_call (kb_alloc (kb_drew w)) (by assumption)⟩
theorem dig6_nat (L : Nat) : ∀ N : Nat, N ≤ L → (N : Int) ≤ 9223372036854775807 → ∀ w : World,
    Calls Tryz.prog 24 #[.int .i64 N] w fun e w' => e = .returned (.string (tx (Lib.decDigits N))) ∧ Below w.heap.size w w' := by
  induction L with
  | zero => intro N hL _ w; exact dig6_one N (by omega) w
  | succ L ih =>
    intro N hL hN w
    by_cases h10 : N < 10
    · exact dig6_one N h10 w
    · exact dig6_step N h10 hN w fun W => ih (N / 10) (by omega) (by omega) W
set_option maxRecDepth 100000 in
set_option maxHeartbeats 1000000 in
/-- Digits of numbers that are not the least one. -/
theorem dig6_any (n : Int) (h0 : -9223372036854775807 ≤ n) (h1 : n ≤ 9223372036854775807) (w : World) :
    Calls Tryz.prog 24 #[.int .i64 n] w fun e w' => e = .returned (.string (tx (Lib.itoa n))) ∧ Below w.heap.size w w' := by
  by_cases hn : 0 ≤ n
  · obtain ⟨N, rfl⟩ := Int.eq_ofNat_of_zero_le hn
    rw [Lib.itoa_nonneg]
    exact dig6_nat N N (Nat.le_refl _) h1 w
  · obtain ⟨N, hN⟩ := Int.eq_ofNat_of_zero_le (show 0 ≤ -n by omega)
    have HK := Lib.hid (dig6_nat N N (Nat.le_refl _) (by omega) w)
    have e : Lib.itoa n = 45 :: Lib.decDigits N := by rw [show n = -(N : Int) by omega]; exact Lib.itoa_neg N (by omega)
    have hl := dec_len (N := N) (by omega)
    rw [e]
    generalize Lib.decDigits N = D at *
    have hadd : ∀ w : World, (Op.stringOp .add (tx [45]) (tx D)).run Tryz.prog w = .ok (.string (tx (45 :: D))) w := fun w => run_tx_add w [45] D (by simp) (by omega)
    have d0 : decide (n < 0) = true := decide_eq_true (by omega)
    have d2 : (n == -9223372036854775808) = false := beq_eq_false_iff_ne.2 (by omega)
    have e0 : (⟨#[45]⟩ : ByteArray) = tx [45] := rfl
    rw [← hN] at HK
    have hw : IntKind.i64.wrap (-n) = -n := by rw [IntKind.wrap_i64]; omega
    clear hN e hl
    go_enter Tryz.func24, Tryz.ntmps24
    go_wp2_with fail
    refine HK.out.mono ?_
    rintro e w1 ⟨rfl, hb⟩
    have HB := Lib.hid hb
    clear hb
    go_wp2
    go_ret
    exact ⟨rfl, HB.out⟩
end Go.Proofs.YtkgfaemdgmmdkaaGreatDoor.Gx
