/- Go's own binary search over a predicate that is handed on: whatever the closure, if it tells B and B is false first, then true. -/
import Derived.Test.YtplhbklfaokjbaaDoorSafem
namespace Go.Proofs.YtplhbklfaokjbaaDoor
open Go.RowKit
attribute [local go_sem] After.cell After.frozen After.lt After.le After.ne After.ne' After.set_eq After.size_set After.lt_add

set_option maxRecDepth 100000 in
set_option maxHeartbeats 1000000 in
theorem search_any (F : FuncId) (lb : Array Value) (eF : ∀ args w, (callFunc F args).run Tryd.prog w = .ok (.enter F args) w) (n r : Nat) (B : Nat → Bool) (w : World) (hn : n ≤ 1000000) (hr : r ≤ n)
    (h0 : ∀ i, i < r → B i = false) (h1 : ∀ i, r ≤ i → i < n → B i = true)
    (hf : ∀ i : Nat, i < n → ∀ W, Below w.heap.size w W → Calls Tryd.prog F (#[.int .i64 i] ++ lb) W fun e w' => e = .returned (.bool (B i)) ∧ Below W.heap.size W w') :
    Calls Tryd.prog 75 #[.int .i64 n, .func (.func F) #[] lb] w fun e w' => e = .returned (.int .i64 r) ∧ Below w.heap.size w w' := by
  have HF : Hid (∀ i : Nat, i < n → ∀ W, Below w.heap.size w W → Calls Tryd.prog F (#[.int .i64 i] ++ lb) W fun e w' => e = .returned (.bool (B i)) ∧ Below W.heap.size W w') := hf
  have H0 := Lib.hid h0
  have H1 := Lib.hid h1
  clear hf h0 h1
  go_enter Tryd.func75, Tryd.ntmps75
  go_wp2
  go_loopw [5, 6, 7] (fun x y z wr => ∃ a b : Nat, x = .int .i64 a ∧ y = .int .i64 b ∧ a ≤ r ∧ r ≤ b ∧ b ≤ n ∧ ∃ v : After w, wr = v.w) (fun x y _ _ => (intOf y).toNat - (intOf x).toNat)
  case atStart => exact ⟨0, n, rfl, rfl, by omega, hr, by omega, ⟨w, Below.refl _ _⟩, rfl⟩
  case round =>
    obtain ⟨a, b, rfl, rfl, ha, hb, hbn, v, rfl⟩ := hrel
    by_cases hlt : a < b
    · have HM := Lib.hid (HF.out ((a + b) / 2) (by omega))
      have e2 : Hid (((a : Int) + (b : Int)) / 2 = (((a + b) / 2 : Nat) : Int)) := Lib.hid (by omega)
      rcases Nat.lt_or_ge ((a + b) / 2) r with hm | hm
      · have HB := Lib.hid (H0.out _ hm)
        rw [HB.out] at HM
        clear HB
        go_wp2_with fail
        rw [e2.out]
        refine calls_after2 (HM.out _ v.out) ?_
        intro y
        go_wp2
        go_roundw
        case rel => exact ⟨(a + b) / 2 + 1, b, by first | go_num | rfl, rfl, by omega, hb, hbn, y, rfl⟩
        case measure => simp [intOf]; omega
      · have HB := Lib.hid (H1.out _ hm (by omega))
        rw [HB.out] at HM
        clear HB
        go_wp2_with fail
        rw [e2.out]
        refine calls_after2 (HM.out _ v.out) ?_
        intro y
        go_wp2
        go_roundw
        case rel => exact ⟨a, (a + b) / 2, rfl, by first | go_num | rfl, ha, hm, by omega, y, rfl⟩
        case measure => simp [intOf]; omega
    · obtain rfl : a = r := by omega
      go_wp2
      go_ret
      exact ⟨rfl, by (repeat' (first | (with_reducible exact Below.refl _ _) | (with_reducible assumption) | (with_reducible refine Below.alloc ?_ ?_ _) | (with_reducible refine Below.drew ?_) | (with_reducible refine below_drewN ?_ _) | (with_reducible refine Below.setCell ?_ ?_ _) | (with_reducible refine below_after ?_ ?_ _) | (with_reducible refine below_set ?_) | (with_reducible refine After.size_le _ ?_) | (with_reducible refine size_alloc_le ?_) | (with_reducible refine size_set_le ?_) | (with_reducible refine size_drewN_le ?_) | go_size))⟩
end Go.Proofs.YtplhbklfaokjbaaDoor
