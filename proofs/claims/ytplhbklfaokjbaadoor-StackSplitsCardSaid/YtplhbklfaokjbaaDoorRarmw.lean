/- Arm and Moment in the reference, by what bedError, over and arm answer. -/
import Derived.Test.YtplhbklfaokjbaaDoorMom
import Derived.Test.YtplhbklfaokjbaaDoorRclosed
namespace Go.Proofs.YtplhbklfaokjbaaDoor
open Go.RowKit
attribute [local go_sem] After.cell After.frozen After.lt After.le After.ne After.ne' After.set_eq After.size_set After.lt_add

set_option maxRecDepth 100000 in
set_option maxHeartbeats 2000000 in
theorem rarmR_err (v : Value) (i p s e : Int) (w : World) (hE : ESay w v i p s e) (he : (e == 0) = false) :
    Calls Tryd.prog 24 #[v, .int .i64 i, .int .i64 p, .int .i64 s] w fun r w' => r = .returned (.tuple #[.agg #[.int .i64 0, .int .i64 0], .agg #[.int .i64 0, .int .i64 0], .int .i64 e]) ∧ Below w.heap.size w w' := by
  have HE : Hid (∀ W, Below w.heap.size w W → _) := hE
  clear hE
  go_enter Tryd.func24, Tryd.ntmps24
  (go_wp2_with fail); refine calls_after (HE.out _ (by (repeat' (first | (with_reducible exact Below.refl _ _) | (with_reducible assumption) | (with_reducible refine Below.alloc ?_ ?_ _) | (with_reducible refine Below.drew ?_) | (with_reducible refine below_drewN ?_ _) | (with_reducible refine Below.setCell ?_ ?_ _) | (with_reducible refine below_after ?_ ?_ _) | (with_reducible refine below_set ?_) | (with_reducible refine After.size_le _ ?_) | (with_reducible refine size_alloc_le ?_) | (with_reducible refine size_set_le ?_) | (with_reducible refine size_drewN_le ?_) | go_size)))) ?_; intro x1; have hz_x1 := x1.out.size; (try simp only [World.size_alloc] at hz_x1); (try simp only [World.size_setCell] at hz_x1); (try simp only [World.size_alloc] at hz_x1); have k0_x1 : w.heap.size < x1.w.heap.size := (by omega); have j0_x1 : w.heap.size < x1.w.heap.size + 1 := (by omega); have k1_x1 : w.heap.size + 1 < x1.w.heap.size := (by omega); have j1_x1 : w.heap.size + 1 < x1.w.heap.size + 1 := (by omega)
  go_wp2_with fail
  obtain ⟨X, hX, r0, r1, r2, r3, hb⟩ := x1.set22 (.int .i64 0) (.int .i64 0) (.int .i64 0) (.int .i64 0) (B := w.heap.size) (C := w.heap.size + 1) (u0 := .int .i64 0) (u1 := .int .i64 0) (u2 := .int .i64 0) (u3 := .int .i64 0) (by omega) ((x1.cell _ (by simp <;> omega)).trans (by simp [go_sem])) ((x1.cell _ (by simp <;> omega)).trans (by simp [go_sem])) ((x1.cell _ (by simp <;> omega)).trans (by simp [go_sem])) ((x1.cell _ (by simp <;> omega)).trans (by simp [go_sem]))
    (n := w.heap.size) (w := w) (by (repeat' (first | (with_reducible exact Below.refl _ _) | (with_reducible assumption) | (with_reducible refine Below.alloc ?_ ?_ _) | (with_reducible refine Below.drew ?_) | (with_reducible refine below_drewN ?_ _) | (with_reducible refine Below.setCell ?_ ?_ _) | (with_reducible refine below_after ?_ ?_ _) | (with_reducible refine below_set ?_) | (with_reducible refine After.size_le _ ?_) | (with_reducible refine size_alloc_le ?_) | (with_reducible refine size_set_le ?_) | (with_reducible refine size_drewN_le ?_) | go_size))) (Nat.le_refl _) (by omega)
  simp only [← After.set_eq]
  rw [hX]
  exact bodyPost_ret (v := .tuple #[.agg #[.int .i64 0, .int .i64 0], .agg #[.int .i64 0, .int .i64 0], .int .i64 e]) (by simp [results, Tryd.results24, go_sem, r0, r1, r2, r3]) rfl ⟨rfl, hb⟩
set_option maxRecDepth 100000 in
set_option maxHeartbeats 4000000 in
theorem rarmR_ok (v : Value) (i p s E N D : Int) (w : World) (hE : ESay w v i p s 0) (hR : RSay w v i p s E N D) (e1 : -9000000000000000000 ≤ E) (e2 : E ≤ 9000000000000000000) (e3 : -9000000000000000000 ≤ N) (e4 : N ≤ 9000000000000000000) (e5 : 1 ≤ D) (e6 : D ≤ 9000000000000000000) :
    Calls Tryd.prog 24 #[v, .int .i64 i, .int .i64 p, .int .i64 s] w fun r w' => r = .returned (.tuple #[.agg #[.int .i64 (ratN E D), .int .i64 (ratD E D)], .agg #[.int .i64 (ratN N D), .int .i64 (ratD N D)], .int .i64 0]) ∧ Below w.heap.size w w' := by
  have HE : Hid (∀ W, Below w.heap.size w W → _) := hE
  have HR : Hid (∀ W, Below w.heap.size w W → _) := hR
  have HR1 := Lib.hid (fun W => rlowest_any E D W e1 e2 e5 e6)
  have HR2 := Lib.hid (fun W => rlowest_any N D W e3 e4 e5 e6)
  clear hE hR e1 e2 e3 e4 e5 e6
  go_enter Tryd.func24, Tryd.ntmps24
  (go_wp2_with fail); refine calls_after (HE.out _ (by (repeat' (first | (with_reducible exact Below.refl _ _) | (with_reducible assumption) | (with_reducible refine Below.alloc ?_ ?_ _) | (with_reducible refine Below.drew ?_) | (with_reducible refine below_drewN ?_ _) | (with_reducible refine Below.setCell ?_ ?_ _) | (with_reducible refine below_after ?_ ?_ _) | (with_reducible refine below_set ?_) | (with_reducible refine After.size_le _ ?_) | (with_reducible refine size_alloc_le ?_) | (with_reducible refine size_set_le ?_) | (with_reducible refine size_drewN_le ?_) | go_size)))) ?_; intro x1; have hz_x1 := x1.out.size; (try simp only [World.size_alloc] at hz_x1); (try simp only [World.size_setCell] at hz_x1); (try simp only [World.size_alloc] at hz_x1); have k0_x1 : w.heap.size < x1.w.heap.size := (by omega); have j0_x1 : w.heap.size < x1.w.heap.size + 1 := (by omega); have k1_x1 : w.heap.size + 1 < x1.w.heap.size := (by omega); have j1_x1 : w.heap.size + 1 < x1.w.heap.size + 1 := (by omega)
  (go_wp2_with fail); refine calls_after2 (HR.out _ (by (repeat' (first | (with_reducible exact Below.refl _ _) | (with_reducible assumption) | (with_reducible refine Below.alloc ?_ ?_ _) | (with_reducible refine Below.drew ?_) | (with_reducible refine below_drewN ?_ _) | (with_reducible refine Below.setCell ?_ ?_ _) | (with_reducible refine below_after ?_ ?_ _) | (with_reducible refine below_set ?_) | (with_reducible refine After.size_le _ ?_) | (with_reducible refine size_alloc_le ?_) | (with_reducible refine size_set_le ?_) | (with_reducible refine size_drewN_le ?_) | go_size)))) ?_; intro x2; have hz_x2 := x2.out.size; (try simp only [World.size_alloc] at hz_x2); (try simp only [World.size_setCell] at hz_x2); (try simp only [World.size_alloc] at hz_x2); have k0_x2 : w.heap.size < x2.w.heap.size := (by omega); have j0_x2 : w.heap.size < x2.w.heap.size + 1 := (by omega); have k1_x2 : w.heap.size + 1 < x2.w.heap.size := (by omega); have j1_x2 : w.heap.size + 1 < x2.w.heap.size + 1 := (by omega)
  go_wp2_with fail
  refine calls_after2 (HR1.out _) ?_
  intro x3
  have hz_x3 := x3.out.size; (try simp only [World.size_alloc] at hz_x3); (try simp only [World.size_setCell] at hz_x3); (try simp only [World.size_alloc] at hz_x3); have k0_x3 : w.heap.size < x3.w.heap.size := (by omega); have j0_x3 : w.heap.size < x3.w.heap.size + 1 := (by omega); have k1_x3 : w.heap.size + 1 < x3.w.heap.size := (by omega); have j1_x3 : w.heap.size + 1 < x3.w.heap.size + 1 := (by omega)
  go_wp2_with fail
  refine calls_after2 (HR2.out _) ?_
  intro x4
  have hz_x4 := x4.out.size; (try simp only [World.size_alloc] at hz_x4); (try simp only [World.size_setCell] at hz_x4); (try simp only [World.size_alloc] at hz_x4); have k0_x4 : w.heap.size < x4.w.heap.size := (by omega); have j0_x4 : w.heap.size < x4.w.heap.size + 1 := (by omega); have k1_x4 : w.heap.size + 1 < x4.w.heap.size := (by omega); have j1_x4 : w.heap.size + 1 < x4.w.heap.size + 1 := (by omega)
  go_wp2_with fail
  obtain ⟨X, hX, r0, r1, r2, r3, hb⟩ := x4.set22 (.int .i64 (ratN E D)) (.int .i64 (ratD E D)) (.int .i64 (ratN N D)) (.int .i64 (ratD N D)) (B := w.heap.size) (C := w.heap.size + 1) (u0 := .int .i64 0) (u1 := .int .i64 0) (u2 := .int .i64 0) (u3 := .int .i64 0) (by omega) (by simp [go_sem, *]) (by simp [go_sem, *]) (by simp [go_sem, *]) (by simp [go_sem, *])
    (n := w.heap.size) (w := w) (by (repeat' (first | (with_reducible exact Below.refl _ _) | (with_reducible assumption) | (with_reducible refine Below.alloc ?_ ?_ _) | (with_reducible refine Below.drew ?_) | (with_reducible refine below_drewN ?_ _) | (with_reducible refine Below.setCell ?_ ?_ _) | (with_reducible refine below_after ?_ ?_ _) | (with_reducible refine below_set ?_) | (with_reducible refine After.size_le _ ?_) | (with_reducible refine size_alloc_le ?_) | (with_reducible refine size_set_le ?_) | (with_reducible refine size_drewN_le ?_) | go_size))) (Nat.le_refl _) (by omega)
  simp only [← After.set_eq]
  rw [hX]
  exact bodyPost_ret (v := .tuple #[.agg #[.int .i64 (ratN E D), .int .i64 (ratD E D)], .agg #[.int .i64 (ratN N D), .int .i64 (ratD N D)], .int .i64 0]) (by simp [results, Tryd.results24, go_sem, r0, r1, r2, r3]) rfl ⟨rfl, hb⟩
set_option maxRecDepth 100000 in
set_option maxHeartbeats 2000000 in
theorem rmoment_err (v : Value) (i p e : Int) (w : World) (hE : ESay w v i p 0 e) (he : (e == 0) = false) :
    Calls Tryd.prog 26 #[v, .int .i64 i, .int .i64 p] w fun r w' => r = .returned (.tuple #[.agg #[.int .i64 0, .int .i64 0], .int .i64 e]) ∧ Below w.heap.size w w' := by
  have HE : Hid (∀ W, Below w.heap.size w W → _) := hE
  clear hE
  go_enter Tryd.func26, Tryd.ntmps26
  (go_wp2_with fail); refine calls_after (HE.out _ (by (repeat' (first | (with_reducible exact Below.refl _ _) | (with_reducible assumption) | (with_reducible refine Below.alloc ?_ ?_ _) | (with_reducible refine Below.drew ?_) | (with_reducible refine below_drewN ?_ _) | (with_reducible refine Below.setCell ?_ ?_ _) | (with_reducible refine below_after ?_ ?_ _) | (with_reducible refine below_set ?_) | (with_reducible refine After.size_le _ ?_) | (with_reducible refine size_alloc_le ?_) | (with_reducible refine size_set_le ?_) | (with_reducible refine size_drewN_le ?_) | go_size)))) ?_; intro x1; have hz_x1 := x1.out.size; (try simp only [World.size_alloc] at hz_x1); (try simp only [World.size_setCell] at hz_x1); (try simp only [World.size_alloc] at hz_x1); have k0_x1 : w.heap.size < x1.w.heap.size := (by omega); have j0_x1 : w.heap.size < x1.w.heap.size + 1 := (by omega)
  go_wp2_with fail
  obtain ⟨X, hX, r0, r1, hb⟩ := x1.set21 (.int .i64 0) (.int .i64 0) (B := w.heap.size) (u0 := .int .i64 0) (u1 := .int .i64 0) ((x1.cell _ (by simp)).trans (by simp [go_sem])) ((x1.cell _ (by simp)).trans (by simp [go_sem]))
    (n := w.heap.size) (w := w) (by (repeat' (first | (with_reducible exact Below.refl _ _) | (with_reducible assumption) | (with_reducible refine Below.alloc ?_ ?_ _) | (with_reducible refine Below.drew ?_) | (with_reducible refine below_drewN ?_ _) | (with_reducible refine Below.setCell ?_ ?_ _) | (with_reducible refine below_after ?_ ?_ _) | (with_reducible refine below_set ?_) | (with_reducible refine After.size_le _ ?_) | (with_reducible refine size_alloc_le ?_) | (with_reducible refine size_set_le ?_) | (with_reducible refine size_drewN_le ?_) | go_size))) (Nat.le_refl _)
  simp only [← After.set_eq]
  rw [hX]
  exact bodyPost_ret (v := .tuple #[.agg #[.int .i64 0, .int .i64 0], .int .i64 e]) (by simp [results, Tryd.results26, go_sem, r0, r1]) rfl ⟨rfl, hb⟩
theorem field_above3 (x y z u : Int) (w : World) : (Instr.field 69 (.agg #[.int .i64 x, .int .i64 y, .int .i64 z, .int .i64 u]) 3).run Tryd.prog w = .ok (.int .i64 u) w := by
  simp [Instr.field, go_sem, run_underlying, part, isAgg, asAgg]
set_option maxRecDepth 100000 in
set_option maxHeartbeats 4000000 in
theorem rmoment_ok (v : Value) (i p : Int) (bv : BedV) (w : World) (hE : ESay w v i p 0 0) (hO : OSay w v i bv) (hI : InB bv) (h0 : 0 ≤ p) (h1 : p ≤ 10000) :
    Calls Tryd.prog 26 #[v, .int .i64 i, .int .i64 p] w fun r w' => r = .returned (.tuple #[.agg #[.int .i64 (ratN (p * bv.pu) 1000000), .int .i64 (ratD (p * bv.pu) 1000000)], .int .i64 0]) ∧ Below w.heap.size w w' := by
  have HE : Hid (∀ W, Below w.heap.size w W → _) := hE
  have HO : Hid (∀ W, Below w.heap.size w W → _) := hO
  obtain ⟨b1, b2, b3, b4, b5, b6, b7, b8, b9, b10, b11, b12⟩ := hI
  obtain ⟨m1, m2⟩ := prod_bd (a := p) (b := bv.pu) (A := 10000) (B := 145200000000000) (by omega) (by omega) (by omega) (by omega)
  simp only [Int.reduceMul, Int.reduceNeg] at m1 m2
  have HR1 := Lib.hid (fun W => rlowest_any (p * bv.pu) 1000000 W (by omega) (by omega) (by omega) (by omega))
  clear hE hO
  simp only [abV] at HO
  go_enter Tryd.func26, Tryd.ntmps26
  (go_wp2_with fail); refine calls_after (HE.out _ (by (repeat' (first | (with_reducible exact Below.refl _ _) | (with_reducible assumption) | (with_reducible refine Below.alloc ?_ ?_ _) | (with_reducible refine Below.drew ?_) | (with_reducible refine below_drewN ?_ _) | (with_reducible refine Below.setCell ?_ ?_ _) | (with_reducible refine below_after ?_ ?_ _) | (with_reducible refine below_set ?_) | (with_reducible refine After.size_le _ ?_) | (with_reducible refine size_alloc_le ?_) | (with_reducible refine size_set_le ?_) | (with_reducible refine size_drewN_le ?_) | go_size)))) ?_; intro x1; have hz_x1 := x1.out.size; (try simp only [World.size_alloc] at hz_x1); (try simp only [World.size_setCell] at hz_x1); (try simp only [World.size_alloc] at hz_x1); have k0_x1 : w.heap.size < x1.w.heap.size := (by omega); have j0_x1 : w.heap.size < x1.w.heap.size + 1 := (by omega)
  (go_wp2_with fail); refine calls_after2 (HO.out _ (by (repeat' (first | (with_reducible exact Below.refl _ _) | (with_reducible assumption) | (with_reducible refine Below.alloc ?_ ?_ _) | (with_reducible refine Below.drew ?_) | (with_reducible refine below_drewN ?_ _) | (with_reducible refine Below.setCell ?_ ?_ _) | (with_reducible refine below_after ?_ ?_ _) | (with_reducible refine below_set ?_) | (with_reducible refine After.size_le _ ?_) | (with_reducible refine size_alloc_le ?_) | (with_reducible refine size_set_le ?_) | (with_reducible refine size_drewN_le ?_) | go_size)))) ?_; intro x2; have hz_x2 := x2.out.size; (try simp only [World.size_alloc] at hz_x2); (try simp only [World.size_setCell] at hz_x2); (try simp only [World.size_alloc] at hz_x2); have k0_x2 : w.heap.size < x2.w.heap.size := (by omega); have j0_x2 : w.heap.size < x2.w.heap.size + 1 := (by omega)
  have hf := field_above3 bv.wt bv.ea bv.no bv.pu x2.w
  go_wp2_with fail
  refine calls_after2 (HR1.out _) ?_
  intro x3
  have hz_x3 := x3.out.size; (try simp only [World.size_alloc] at hz_x3); (try simp only [World.size_setCell] at hz_x3); (try simp only [World.size_alloc] at hz_x3); have k0_x3 : w.heap.size < x3.w.heap.size := (by omega); have j0_x3 : w.heap.size < x3.w.heap.size + 1 := (by omega)
  go_wp2_with fail
  obtain ⟨X, hX, r0, r1, hb⟩ := x3.set21 (.int .i64 (ratN (p * bv.pu) 1000000)) (.int .i64 (ratD (p * bv.pu) 1000000)) (B := w.heap.size) (u0 := .int .i64 0) (u1 := .int .i64 0) (by simp [go_sem, *]) (by simp [go_sem, *])
    (n := w.heap.size) (w := w) (by (repeat' (first | (with_reducible exact Below.refl _ _) | (with_reducible assumption) | (with_reducible refine Below.alloc ?_ ?_ _) | (with_reducible refine Below.drew ?_) | (with_reducible refine below_drewN ?_ _) | (with_reducible refine Below.setCell ?_ ?_ _) | (with_reducible refine below_after ?_ ?_ _) | (with_reducible refine below_set ?_) | (with_reducible refine After.size_le _ ?_) | (with_reducible refine size_alloc_le ?_) | (with_reducible refine size_set_le ?_) | (with_reducible refine size_drewN_le ?_) | go_size))) (Nat.le_refl _)
  simp only [← After.set_eq]
  rw [hX]
  exact bodyPost_ret (v := .tuple #[.agg #[.int .i64 (ratN (p * bv.pu) 1000000), .int .i64 (ratD (p * bv.pu) 1000000)], .int .i64 0]) (by simp [results, Tryd.results26, go_sem, r0, r1]) rfl ⟨rfl, hb⟩
end Go.Proofs.YtplhbklfaokjbaaDoor
