/- The program's Format, and both Formats of a bad survey. -/
import Derived.Test.YtldopcneellfbaaGreatDoorBld
import Derived.Test.YtldopcneellfbaaGreatDoorReadm
import Derived.Test.YtldopcneellfbaaGreatDoorFmtr
namespace Go.Proofs.YtldopcneellfbaaGreatDoor
open Go.RowKit
attribute [local go_sem] After.cell After.frozen After.lt After.le After.ne After.ne' After.set_eq After.size_set After.lt_add tx_size tx_toList

set_option maxRecDepth 100000 in
set_option maxHeartbeats 1000000 in
theorem format_bad (a : Option Addr) (n cap : Nat) (w : World) (hv : MSay w (.slice a n cap) false) :
    Calls Tryz.prog 8 #[.slice a n cap] w fun e w' => e = .returned (.string (tx [])) ∧ Below w.heap.size w w' := by
  have HV : Hid (∀ W, Below w.heap.size w W → _) := hv
  have e0 : (⟨#[]⟩ : ByteArray) = tx [] := rfl
  clear hv
  go_enter Tryz.func8, Tryz.ntmps8
  go_wp2_with fail
  refine (HV.out _ (by (repeat' (first | (with_reducible exact Below.refl _ _) | (with_reducible assumption) | (with_reducible refine Below.alloc ?_ ?_ _) | (with_reducible refine Below.drew ?_) | (with_reducible refine below_drewN ?_ _) | (with_reducible refine Below.setCell ?_ ?_ _) | (with_reducible refine below_after ?_ ?_ _) | (with_reducible refine below_set ?_) | (with_reducible refine After.size_le _ ?_) | (with_reducible refine size_alloc_le ?_) | (with_reducible refine size_set_le ?_) | (with_reducible refine size_drewN_le ?_) | go_size)))).mono ?_
  rintro e0 w1 ⟨rfl, hb1⟩
  go_wp2
  go_ret
  exact ⟨rfl, by (repeat' (first | (with_reducible exact Below.refl _ _) | (with_reducible assumption) | (with_reducible refine Below.alloc ?_ ?_ _) | (with_reducible refine Below.drew ?_) | (with_reducible refine below_drewN ?_ _) | (with_reducible refine Below.setCell ?_ ?_ _) | (with_reducible refine below_after ?_ ?_ _) | (with_reducible refine below_set ?_) | (with_reducible refine After.size_le _ ?_) | (with_reducible refine size_alloc_le ?_) | (with_reducible refine size_set_le ?_) | (with_reducible refine size_drewN_le ?_) | go_size))⟩
set_option maxRecDepth 100000 in
set_option maxHeartbeats 1000000 in
theorem rformat_bad (a : Option Addr) (n cap : Nat) (w : World) (hv : RMSay w (.slice a n cap) false) :
    Calls Tryz.prog 9 #[.slice a n cap] w fun e w' => e = .returned (.string (tx [])) ∧ Below w.heap.size w w' := by
  have HV : Hid (∀ W, Below w.heap.size w W → _) := hv
  have e0 : (⟨#[]⟩ : ByteArray) = tx [] := rfl
  clear hv
  go_enter Tryz.func9, Tryz.ntmps9
  go_wp2_with fail
  refine (HV.out _ (by (repeat' (first | (with_reducible exact Below.refl _ _) | (with_reducible assumption) | (with_reducible refine Below.alloc ?_ ?_ _) | (with_reducible refine Below.drew ?_) | (with_reducible refine below_drewN ?_ _) | (with_reducible refine Below.setCell ?_ ?_ _) | (with_reducible refine below_after ?_ ?_ _) | (with_reducible refine below_set ?_) | (with_reducible refine After.size_le _ ?_) | (with_reducible refine size_alloc_le ?_) | (with_reducible refine size_set_le ?_) | (with_reducible refine size_drewN_le ?_) | go_size)))).mono ?_
  rintro e0 w1 ⟨rfl, hb1⟩
  go_wp2
  go_ret
  exact ⟨rfl, by (repeat' (first | (with_reducible exact Below.refl _ _) | (with_reducible assumption) | (with_reducible refine Below.alloc ?_ ?_ _) | (with_reducible refine Below.drew ?_) | (with_reducible refine below_drewN ?_ _) | (with_reducible refine Below.setCell ?_ ?_ _) | (with_reducible refine below_after ?_ ?_ _) | (with_reducible refine below_set ?_) | (with_reducible refine After.size_le _ ?_) | (with_reducible refine size_alloc_le ?_) | (with_reducible refine size_set_le ?_) | (with_reducible refine size_drewN_le ?_) | go_size))⟩
theorem lineL_sum (h e n : Int) : ((((Lib.itoa h ++ [32]) ++ Lib.itoa e) ++ [32]) ++ Lib.itoa n) ++ [10] = lineL h e n := by simp [lineL]

set_option maxRecDepth 1000000 in
set_option maxHeartbeats 2000000 in
theorem format_ok (b off cap n : Nat) (f : Nat → Nat → Int) (w : World) (hb : b < w.heap.size) (hc : MkCells w b off n f) (hG : GoodM n f) (hv : MSay w (.slice (some ⟨b, off, none⟩) n cap) true) (hS : Std w) :
    Calls Tryz.prog 8 #[.slice (some ⟨b, off, none⟩) n cap] w fun e w' => e = .returned (.string (tx (formL n f))) ∧ Below w.heap.size w w' := by
  have HV : Hid (∀ W, Below w.heap.size w W → _) := hv
  have HC := Lib.hid (fun W (hW : Below w.heap.size w W) => hc.on hb hW)
  have HG := Lib.hid hG
  have HS := Lib.hid hS
  have hn40 := hG.2.1
  clear hv hc hG hS
  go_enter Tryz.func8, Tryz.ntmps8
  go_wp2_with fail
  refine (HV.out _ (by (repeat' (first | (with_reducible exact Below.refl _ _) | (with_reducible assumption) | (with_reducible refine Below.alloc ?_ ?_ _) | (with_reducible refine Below.drew ?_) | (with_reducible refine below_drewN ?_ _) | (with_reducible refine Below.setCell ?_ ?_ _) | (with_reducible refine below_after ?_ ?_ _) | (with_reducible refine below_set ?_) | (with_reducible refine After.size_le _ ?_) | (with_reducible refine size_alloc_le ?_) | (with_reducible refine size_set_le ?_) | (with_reducible refine size_drewN_le ?_) | go_size)))).mono ?_
  rintro e0 w1 ⟨rfl, hb1⟩
  obtain ⟨x1, rfl⟩ := after_of' hb1
  clear hb1
  go_wp2
  go_loopw [11] (fun i wr => ∃ k : Nat, k ≤ n ∧ i = .int .i64 k ∧ ∃ x : After w, wr = x.w ∧ Hid (Bld w.heap.size x1.w.heap.size (formL k f) x.w ∧ (formL k f).length ≤ k * 64)) (fun i _ => n - (intOf i).toNat)
  case atStart =>
    refine ⟨0, by omega, rfl, ⟨_, (Below.alloc x1.out x1.out.size _)⟩, rfl, Lib.hid ⟨?_, by simp [formL]⟩⟩
    exact .inl ⟨x1.out.size, .slice none 0 0, heap_alloc_new x1.w _, World.ownsRow_nil _ _ _ _, by simp [Value.ownBlock]⟩
  case round =>
    obtain ⟨k, hk, rfl, x, rfl, HB⟩ := hrel
    have hbx := x.size_lt hb
    by_cases hlt : k < n
    · obtain ⟨c0, c1, c2⟩ := HC.out x.w x.out k hlt
      have hM := (HG.out.2.2 k hlt).1
      have HT := Lib.hid (formL_succ k f)
      have HL := Lib.hid (lineL_sum (f k 0) (f k 1) (f k 2))
      have hkn : (k : Int) < (n : Int) := by omega
      have i0 : I64 (f k 0) := by unfold InMk at hM; unfold I64; omega
      have i1 : I64 (f k 1) := by unfold InMk at hM; unfold I64; omega
      have i2 : I64 (f k 2) := by unfold InMk at hM; unfold I64; omega
      have q0 : (Lib.itoa (f k 0)).length ≤ 20 := by unfold InMk at hM; have := itoa_len (n := f k 0) (by omega) (by omega); omega
      have q1 : (Lib.itoa (f k 1)).length ≤ 20 := by unfold InMk at hM; have := itoa_len (n := f k 1) (by omega) (by omega); omega
      have q2 : (Lib.itoa (f k 2)).length ≤ 20 := by unfold InMk at hM; have := itoa_len (n := f k 2) (by omega) (by omega); omega
      have J0 := Lib.hid (fun (V : World) (hV : Below w.heap.size w V) => itoa_any i0 (HS.out.on hV))
      have J1 := Lib.hid (fun (V : World) (hV : Below w.heap.size w V) => itoa_any i1 (HS.out.on hV))
      have J2 := Lib.hid (fun (V : World) (hV : Below w.heap.size w V) => itoa_any i2 (HS.out.on hV))
      clear i0 i1 i2 hM
      generalize f k 0 = h0 at *
      generalize f k 1 = h1 at *
      generalize f k 2 = h2 at *
      generalize Lib.itoa h0 = s0 at *
      generalize Lib.itoa h1 = s1 at *
      generalize Lib.itoa h2 = s2 at *
      have e32 : (⟨#[32]⟩ : ByteArray) = tx [32] := rfl
      have e10 : (⟨#[10]⟩ : ByteArray) = tx [10] := rfl
      have a1 : ∀ w : World, (Op.stringOp .add (tx s0) (tx [32])).run Tryz.prog w = .ok (.string (tx (s0 ++ [32]))) w := fun w => run_tx_add w _ _ (by omega) (by simp)
      have a2 : ∀ w : World, (Op.stringOp .add (tx (s0 ++ [32])) (tx s1)).run Tryz.prog w = .ok (.string (tx ((s0 ++ [32]) ++ s1))) w := fun w => run_tx_add w _ _ (by simp; omega) (by omega)
      have a3 : ∀ w : World, (Op.stringOp .add (tx ((s0 ++ [32]) ++ s1)) (tx [32])).run Tryz.prog w = .ok (.string (tx (((s0 ++ [32]) ++ s1) ++ [32]))) w := fun w => run_tx_add w _ _ (by simp; omega) (by simp)
      have a4 : ∀ w : World, (Op.stringOp .add (tx (((s0 ++ [32]) ++ s1) ++ [32])) (tx s2)).run Tryz.prog w = .ok (.string (tx ((((s0 ++ [32]) ++ s1) ++ [32]) ++ s2))) w := fun w => run_tx_add w _ _ (by simp; omega) (by omega)
      have a5 : ∀ w : World, (Op.stringOp .add (tx ((((s0 ++ [32]) ++ s1) ++ [32]) ++ s2)) (tx [10])).run Tryz.prog w = .ok (.string (tx (((((s0 ++ [32]) ++ s1) ++ [32]) ++ s2) ++ [10]))) w := fun w => run_tx_add w _ _ (by simp; omega) (by simp)
      have hlen : (((((s0 ++ [32]) ++ s1) ++ [32]) ++ s2) ++ [10]).length ≤ 64 := by simp; omega
      generalize s0 ++ [32] = u1 at *
      generalize u1 ++ s1 = u2 at *
      generalize u2 ++ [32] = u3 at *
      generalize u3 ++ s2 = u4 at *
      generalize u4 ++ [10] = u5 at *
      go_wp2
      refine wp_region_after_tail 14 (by kernel_rfl) (by kernel_rfl) ?_; simp only [List.take_succ_cons, List.take_zero, List.drop_succ_cons, List.drop_zero]; (repeat (first | go_big_quiet_step ((go_at_call 19; first | with_reducible exact quiet_after (J0.out _ (by (repeat' (first | (with_reducible exact Below.refl _ _) | (with_reducible assumption) | (with_reducible refine Below.alloc ?_ ?_ _) | (with_reducible refine Below.drew ?_) | (with_reducible refine below_drewN ?_ _) | (with_reducible refine Below.setCell ?_ ?_ _) | (with_reducible refine below_after ?_ ?_ _) | (with_reducible refine below_set ?_) | (with_reducible refine After.size_le _ ?_) | (with_reducible refine size_alloc_le ?_) | (with_reducible refine size_set_le ?_) | (with_reducible refine size_drewN_le ?_) | go_size)))) | with_reducible exact quiet_after (J1.out _ (by (repeat' (first | (with_reducible exact Below.refl _ _) | (with_reducible assumption) | (with_reducible refine Below.alloc ?_ ?_ _) | (with_reducible refine Below.drew ?_) | (with_reducible refine below_drewN ?_ _) | (with_reducible refine Below.setCell ?_ ?_ _) | (with_reducible refine below_after ?_ ?_ _) | (with_reducible refine below_set ?_) | (with_reducible refine After.size_le _ ?_) | (with_reducible refine size_alloc_le ?_) | (with_reducible refine size_set_le ?_) | (with_reducible refine size_drewN_le ?_) | go_size)))) | with_reducible exact quiet_after (J2.out _ (by (repeat' (first | (with_reducible exact Below.refl _ _) | (with_reducible assumption) | (with_reducible refine Below.alloc ?_ ?_ _) | (with_reducible refine Below.drew ?_) | (with_reducible refine below_drewN ?_ _) | (with_reducible refine Below.setCell ?_ ?_ _) | (with_reducible refine below_after ?_ ?_ _) | (with_reducible refine below_set ?_) | (with_reducible refine After.size_le _ ?_) | (with_reducible refine size_alloc_le ?_) | (with_reducible refine size_set_le ?_) | (with_reducible refine size_drewN_le ?_) | go_size)))))) | (refine wpQuiet_step (fun K hK => ?_); go_simp; first | (refine hK _ ?_; clear hK K) | (apply Exists.intro; refine ⟨fun x => ?_, hK _ ?_⟩; (go_at_call 19; first | with_reducible exact quiet_after (J0.out _ (by (repeat' (first | (with_reducible exact Below.refl _ _) | (with_reducible assumption) | (with_reducible refine Below.alloc ?_ ?_ _) | (with_reducible refine Below.drew ?_) | (with_reducible refine below_drewN ?_ _) | (with_reducible refine Below.setCell ?_ ?_ _) | (with_reducible refine below_after ?_ ?_ _) | (with_reducible refine below_set ?_) | (with_reducible refine After.size_le _ ?_) | (with_reducible refine size_alloc_le ?_) | (with_reducible refine size_set_le ?_) | (with_reducible refine size_drewN_le ?_) | go_size)))) | with_reducible exact quiet_after (J1.out _ (by (repeat' (first | (with_reducible exact Below.refl _ _) | (with_reducible assumption) | (with_reducible refine Below.alloc ?_ ?_ _) | (with_reducible refine Below.drew ?_) | (with_reducible refine below_drewN ?_ _) | (with_reducible refine Below.setCell ?_ ?_ _) | (with_reducible refine below_after ?_ ?_ _) | (with_reducible refine below_set ?_) | (with_reducible refine After.size_le _ ?_) | (with_reducible refine size_alloc_le ?_) | (with_reducible refine size_set_le ?_) | (with_reducible refine size_drewN_le ?_) | go_size)))) | with_reducible exact quiet_after (J2.out _ (by (repeat' (first | (with_reducible exact Below.refl _ _) | (with_reducible assumption) | (with_reducible refine Below.alloc ?_ ?_ _) | (with_reducible refine Below.drew ?_) | (with_reducible refine below_drewN ?_ _) | (with_reducible refine Below.setCell ?_ ?_ _) | (with_reducible refine below_after ?_ ?_ _) | (with_reducible refine below_set ?_) | (with_reducible refine After.size_le _ ?_) | (with_reducible refine size_alloc_le ?_) | (with_reducible refine size_set_le ?_) | (with_reducible refine size_drewN_le ?_) | go_size))))); clear hK K)))); refine wpQuiet_nil ?_
      intro y
      go_wp2_with fail
      have hBy : Below x.w.heap.size x.w y.w := by (repeat' (first | (with_reducible exact Nat.le_refl _) | (with_reducible exact Below.refl _ _) | (with_reducible assumption) | (with_reducible refine Below.alloc ?_ ?_ _) | (with_reducible refine Below.drew ?_) | (with_reducible refine below_drewN ?_ _) | (with_reducible refine Below.setCell ?_ ?_ _) | (with_reducible refine below_after ?_ ?_ _) | (with_reducible refine below_set ?_) | (with_reducible refine After.size_le _ ?_) | (with_reducible refine size_alloc_le ?_) | (with_reducible refine size_set_le ?_) | (with_reducible refine size_drewN_le ?_) | go_size))
      refine (write_any u5 (HB.out.1.on hBy) (by have := HB.out.2; omega) (by (repeat' (first | (with_reducible exact Below.refl _ _) | (with_reducible assumption) | (with_reducible refine Below.alloc ?_ ?_ _) | (with_reducible refine Below.drew ?_) | (with_reducible refine below_drewN ?_ _) | (with_reducible refine Below.setCell ?_ ?_ _) | (with_reducible refine below_after ?_ ?_ _) | (with_reducible refine below_set ?_) | (with_reducible refine After.size_le _ ?_) | (with_reducible refine size_alloc_le ?_) | (with_reducible refine size_set_le ?_) | (with_reducible refine size_drewN_le ?_) | go_size)))).mono ?_
      rintro e5 w5 ⟨rfl, hB5, hb5⟩
      have hB6 : Hid (Bld w.heap.size x1.w.heap.size (formL (k + 1) f) w5 ∧ (formL (k + 1) f).length ≤ (k + 1) * 64) := Lib.hid (by
        have h1 := HT.out
        have h2 := HB.out.2
        rw [← HL.out] at h1
        rw [h1]
        exact ⟨hB5, by simp only [List.length_append]; omega⟩)
      have hx5 : Below w.heap.size w w5 := (Below.trans x.out (hBy.mono x.out.size)).trans hb5
      obtain ⟨x5, rfl⟩ := after_of' hx5
      clear hx5 hb5 hB5
      go_wp2
      go_roundw
      case rel => exact ⟨k + 1, by omega, by go_num, x5, rfl, hB6⟩
      case measure => simp [intOf]; omega
    · obtain rfl : n = k := by omega
      go_wp2_with (go_at_call 20; refine (string_any HB.out.1 x.out.size).mono ?_; rintro e w5 ⟨rfl, hb5⟩)
      go_ret
      exact ⟨rfl, x.out.trans hb5⟩
end Go.Proofs.YtldopcneellfbaaGreatDoor
