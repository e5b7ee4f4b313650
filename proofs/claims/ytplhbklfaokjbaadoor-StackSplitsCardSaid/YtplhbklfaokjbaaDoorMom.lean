/- Moment in the program, by what bedInWind hands back. -/
import Derived.Test.YtplhbklfaokjbaaDoorArmp
namespace Go.Proofs.YtplhbklfaokjbaaDoor
open Go.RowKit
attribute [local go_sem] After.cell After.frozen After.lt After.le After.ne After.ne' After.set_eq After.size_set After.lt_add

theorem After.set21 {W : World} (z : After W) {B n : Nat} {u0 u1 : Value} (v0 v1 : Value) (h0 : z.w.cell? ⟨B, 0, none⟩ = some u0) (h1 : z.w.cell? ⟨B, 1, none⟩ = some u1)
    {w : World} (hb : Below n w z.w) (hB : n ≤ B) :
    ∃ X, (z.w.setCell ⟨B, 0, none⟩ v0).setCell ⟨B, 1, none⟩ v1 = X ∧ X.cell? ⟨B, 0, none⟩ = some v0 ∧ X.cell? ⟨B, 1, none⟩ = some v1 ∧ Below n w X := by
  obtain ⟨r0, r1⟩ := z.set2 v0 v1 h0 h1
  exact ⟨_, rfl, r0, r1, (hb.setCell hB _).setCell hB _⟩

set_option maxRecDepth 100000 in
set_option maxHeartbeats 2000000 in
theorem moment_err (a : Option Addr) (n cap : Nat) (i p : Int) (e : Int) (w : World) (hA : ASay w (.slice a n cap) i p 0 zbed e) (he : (e == 0) = false) :
    Calls Tryd.prog 25 #[.slice a n cap, .int .i64 i, .int .i64 p] w fun r w' => r = .returned (.tuple #[.agg #[.int .i64 0, .int .i64 0], .int .i64 e]) ∧ Below w.heap.size w w' := by
  have HA : Hid (∀ W, Below w.heap.size w W → _) := hA
  clear hA
  simp only [BedV.val] at HA
  go_enter Tryd.func25, Tryd.ntmps25
  go_wp2_with fail
  refine calls_after (HA.out _ (by (repeat' (first | (with_reducible exact Below.refl _ _) | (with_reducible assumption) | (with_reducible refine Below.alloc ?_ ?_ _) | (with_reducible refine Below.drew ?_) | (with_reducible refine below_drewN ?_ _) | (with_reducible refine Below.setCell ?_ ?_ _) | (with_reducible refine below_after ?_ ?_ _) | (with_reducible refine below_set ?_) | (with_reducible refine After.size_le _ ?_) | (with_reducible refine size_alloc_le ?_) | (with_reducible refine size_set_le ?_) | (with_reducible refine size_drewN_le ?_) | go_size)))) ?_
  intro x1
  have hz_x1 := x1.out.size; (try simp only [World.size_alloc] at hz_x1); (try simp only [World.size_setCell] at hz_x1); (try simp only [World.size_alloc] at hz_x1); have k0_x1 : w.heap.size < x1.w.heap.size := (by omega); have j0_x1 : w.heap.size < x1.w.heap.size + 1 := (by omega)
  go_wp2_with fail
  obtain ⟨X, hX, r0, r1, hb⟩ := x1.set21 (.int .i64 0) (.int .i64 0) (B := w.heap.size) (u0 := .int .i64 0) (u1 := .int .i64 0) ((x1.cell _ (by simp)).trans (by simp [go_sem])) ((x1.cell _ (by simp)).trans (by simp [go_sem]))
    (n := w.heap.size) (w := w) (by (repeat' (first | (with_reducible exact Below.refl _ _) | (with_reducible assumption) | (with_reducible refine Below.alloc ?_ ?_ _) | (with_reducible refine Below.drew ?_) | (with_reducible refine below_drewN ?_ _) | (with_reducible refine Below.setCell ?_ ?_ _) | (with_reducible refine below_after ?_ ?_ _) | (with_reducible refine below_set ?_) | (with_reducible refine After.size_le _ ?_) | (with_reducible refine size_alloc_le ?_) | (with_reducible refine size_set_le ?_) | (with_reducible refine size_drewN_le ?_) | go_size))) (Nat.le_refl _)
  simp only [← After.set_eq]
  rw [hX]
  exact bodyPost_ret (v := .tuple #[.agg #[.int .i64 0, .int .i64 0], .int .i64 e]) (by simp [results, Tryd.results25, go_sem, keep_alloc r0, keep_alloc r1]) rfl ⟨rfl, hb.alloc hb.size _⟩
set_option maxRecDepth 100000 in
set_option maxHeartbeats 4000000 in
theorem moment_ok (a : Option Addr) (n cap : Nat) (i p : Int) (bv : BedV) (w : World) (hA : ASay w (.slice a n cap) i p 0 bv 0) (hI : InB bv) (h0 : 0 ≤ p) (h1 : p ≤ 10000) :
    Calls Tryd.prog 25 #[.slice a n cap, .int .i64 i, .int .i64 p] w fun r w' => r = .returned (.tuple #[.agg #[.int .i64 (ratN (p * bv.pu) 1000000), .int .i64 (ratD (p * bv.pu) 1000000)], .int .i64 0]) ∧ Below w.heap.size w w' := by
  have HA : Hid (∀ W, Below w.heap.size w W → _) := hA
  obtain ⟨b1, b2, b3, b4, b5, b6, b7, b8, b9, b10, b11, b12⟩ := hI
  obtain ⟨m1, m2⟩ := prod_bd (a := p) (b := bv.pu) (A := 10000) (B := 145200000000000) (by omega) (by omega) (by omega) (by omega)
  simp only [Int.reduceMul, Int.reduceNeg] at m1 m2
  have HR1 := Lib.hid (fun W => sratio_any (p * bv.pu) 1000000 W (by omega) (by omega) (by omega) (by omega))
  clear hA
  simp only [BedV.val] at HA
  go_enter Tryd.func25, Tryd.ntmps25
  go_wp2_with fail
  refine calls_after (HA.out _ (by (repeat' (first | (with_reducible exact Below.refl _ _) | (with_reducible assumption) | (with_reducible refine Below.alloc ?_ ?_ _) | (with_reducible refine Below.drew ?_) | (with_reducible refine below_drewN ?_ _) | (with_reducible refine Below.setCell ?_ ?_ _) | (with_reducible refine below_after ?_ ?_ _) | (with_reducible refine below_set ?_) | (with_reducible refine After.size_le _ ?_) | (with_reducible refine size_alloc_le ?_) | (with_reducible refine size_set_le ?_) | (with_reducible refine size_drewN_le ?_) | go_size)))) ?_
  intro x1
  have hz_x1 := x1.out.size; (try simp only [World.size_alloc] at hz_x1); (try simp only [World.size_setCell] at hz_x1); (try simp only [World.size_alloc] at hz_x1); have k0_x1 : w.heap.size < x1.w.heap.size := (by omega); have j0_x1 : w.heap.size < x1.w.heap.size + 1 := (by omega)
  go_wp2_with fail
  have nb := new_bed x1.w bv
  obtain ⟨y, hy⟩ := after_ofB (x1.out.alloc x1.out.size (.cells #[.int .i64 bv.ix, .int .i64 (bv.c 0), .int .i64 (bv.c 1), .int .i64 (bv.c 2), .int .i64 (bv.c 3), .int .i64 (bv.c 4), .int .i64 (bv.c 5), .int .i64 bv.wt, .int .i64 bv.ea, .int .i64 bv.no, .int .i64 bv.fa, .int .i64 bv.pu] 64))
  rw [hy] at nb ⊢
  have hsy : y.w.heap.size = x1.w.heap.size + 1 := by rw [← hy]; simp
  clear hy
  have hz := y.out.size
  obtain ⟨c0, c1, c2, c3, c4, c5, c6, c7, c8, c9, c10, c11, cf⟩ := nb
  have hz_y := y.out.size; (try simp only [World.size_alloc] at hz_y); (try simp only [World.size_setCell] at hz_y); (try simp only [World.size_alloc] at hz_y); have k0_y : w.heap.size < y.w.heap.size := (by omega); have j0_y : w.heap.size < y.w.heap.size + 1 := (by omega); have k1_y : x1.w.heap.size < y.w.heap.size := (by omega); have j1_y : x1.w.heap.size < y.w.heap.size + 1 := (by omega)
  go_wp2_with fail
  refine calls_after (HR1.out _) ?_
  intro x3
  have hz_x3 := x3.out.size; (try simp only [World.size_alloc] at hz_x3); (try simp only [World.size_setCell] at hz_x3); (try simp only [World.size_alloc] at hz_x3); have k0_x3 : w.heap.size < x3.w.heap.size := (by omega); have j0_x3 : w.heap.size < x3.w.heap.size + 1 := (by omega); have k1_x3 : x1.w.heap.size < x3.w.heap.size := (by omega); have j1_x3 : x1.w.heap.size < x3.w.heap.size + 1 := (by omega)
  go_wp2_with fail
  obtain ⟨X, hX, r0, r1, hb⟩ := x3.set21 (.int .i64 (ratN (p * bv.pu) 1000000)) (.int .i64 (ratD (p * bv.pu) 1000000)) (B := w.heap.size) (u0 := .int .i64 0) (u1 := .int .i64 0) (by simp [go_sem, *]) (by simp [go_sem, *])
    (n := w.heap.size) (w := w) (by (repeat' (first | (with_reducible exact Below.refl _ _) | (with_reducible assumption) | (with_reducible refine Below.alloc ?_ ?_ _) | (with_reducible refine Below.drew ?_) | (with_reducible refine below_drewN ?_ _) | (with_reducible refine Below.setCell ?_ ?_ _) | (with_reducible refine below_after ?_ ?_ _) | (with_reducible refine below_set ?_) | (with_reducible refine After.size_le _ ?_) | (with_reducible refine size_alloc_le ?_) | (with_reducible refine size_set_le ?_) | (with_reducible refine size_drewN_le ?_) | go_size))) (Nat.le_refl _)
  simp only [← After.set_eq]
  rw [hX]
  exact bodyPost_ret (v := .tuple #[.agg #[.int .i64 (ratN (p * bv.pu) 1000000), .int .i64 (ratD (p * bv.pu) 1000000)], .int .i64 0]) (by simp [results, Tryd.results25, go_sem, r0, r1]) rfl ⟨rfl, hb⟩
end Go.Proofs.YtplhbklfaokjbaaDoor
