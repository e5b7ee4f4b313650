/- The program's readMark. -/
import Derived.Test.YtldopcneellfbaaGreatDoorSplitt
import Derived.Test.YtldopcneellfbaaGreatDoorParsem
namespace Go.Proofs.YtldopcneellfbaaGreatDoor
open Go.RowKit
attribute [local go_sem] After.cell After.frozen After.lt After.le After.ne After.ne' After.set_eq After.size_set After.lt_add tx_size tx_toList

/-- What readMark answers. -/
def RAns (s : List UInt8) (e : Ending) : Prop := ∃ a b c ok, e = .returned (.tuple #[.agg #[.int .i64 a, .int .i64 b, .int .i64 c], .bool ok]) ∧ I64 a ∧ I64 b ∧ I64 c ∧ (ok = true → wordsL 32 s = threeW a b c) ∧ (ok = false → ∀ a b c, I64 a → I64 b → I64 c → wordsL 32 s ≠ threeW a b c)
set_option maxRecDepth 100000 in
set_option maxHeartbeats 1000000 in
theorem readMark_len (s : List UInt8) (hs : s.length ≤ 65536) (w : World) (hS : Std w) (h3 : (wordsL 32 s).length ≠ 3) :
    Calls Tryz.prog 12 #[.string (tx s)] w fun e w' => RAns s e ∧ Below w.heap.size w w' := by
  have HS : Hid (∀ W, Below w.heap.size w W → Calls Tryz.prog 33 #[.string (tx s), .string (tx [32])] W _) := Lib.hid fun W hW => split_any hs (hS.on hW)
  have HA : Hid (∀ e, e = .returned (.tuple #[.agg #[.int .i64 0, .int .i64 0, .int .i64 0], .bool false]) → RAns s e) := Lib.hid fun e he => ⟨0, 0, 0, false, he, by unfold I64; omega, by unfold I64; omega, by unfold I64; omega, (fun h => by cases h), fun _ a b c _ _ _ e => h3 (by rw [e]; rfl)⟩
  have h3' : (((wordsL 32 s).length : Int) == 3) = false := by rw [beq_eq_false_iff_ne]; omega
  clear hS h3
  have e0 : (⟨#[32]⟩ : ByteArray) = tx [32] := rfl
  go_enter Tryz.func12, Tryz.ntmps12
  go_wp2_with fail
  refine (HS.out _ (by (repeat' (first | (with_reducible exact Below.refl _ _) | (with_reducible assumption) | (with_reducible refine Below.alloc ?_ ?_ _) | (with_reducible refine Below.drew ?_) | (with_reducible refine below_drewN ?_ _) | (with_reducible refine Below.setCell ?_ ?_ _) | (with_reducible refine below_after ?_ ?_ _) | (with_reducible refine below_set ?_) | (with_reducible refine After.size_le _ ?_) | (with_reducible refine size_alloc_le ?_) | (with_reducible refine size_set_le ?_) | (with_reducible refine size_drewN_le ?_) | go_size)))).mono ?_
  rintro e w1 ⟨⟨v1, rfl, a, cap, rfl, -⟩, hb1⟩
  obtain ⟨x1, rfl⟩ := after_of' hb1
  clear hb1 HS
  have z1 : w.heap.size < w.heap.size + 1 := by omega
  go_wp2
  have q (o : Nat) (v : Value) (hv : (w.alloc (.cells #[.int .i64 0, .int .i64 0, .int .i64 0] 40)).cell? ⟨w.heap.size, o, none⟩ = some v) : x1.w.cell? ⟨w.heap.size, o, none⟩ = some v := (x1.cell _ (by simp)).trans hv
  have r0 := q 0 (.int .i64 0) (by simp [go_sem])
  have r1 := q 1 (.int .i64 0) (by simp [go_sem])
  have r2 := q 2 (.int .i64 0) (by simp [go_sem])
  obtain ⟨w0, w1, w2⟩ := x1.set3 (.int .i64 0) (.int .i64 0) (.int .i64 0) r0 r1 r2
  refine bodyPost_ret (v := .tuple #[.agg #[.int .i64 0, .int .i64 0, .int .i64 0], .bool false]) (by simp [results, Tryz.results12, go_sem, w0, w1, w2]) rfl ⟨HA.out _ rfl, ?_⟩
  (repeat' (first | (with_reducible exact Below.refl _ _) | (with_reducible assumption) | (with_reducible refine Below.alloc ?_ ?_ _) | (with_reducible refine Below.drew ?_) | (with_reducible refine below_drewN ?_ _) | (with_reducible refine Below.setCell ?_ ?_ _) | (with_reducible refine below_after ?_ ?_ _) | (with_reducible refine below_set ?_) | (with_reducible refine After.size_le _ ?_) | (with_reducible refine size_alloc_le ?_) | (with_reducible refine size_set_le ?_) | (with_reducible refine size_drewN_le ?_) | go_size))
end Go.Proofs.YtldopcneellfbaaGreatDoor
