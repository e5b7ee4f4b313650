/- Weight and Centre in the program, by what bedAt hands back. -/
import Derived.Test.YtplhbklfaokjbaaDoorArmc
namespace Go.Proofs.YtplhbklfaokjbaaDoor
open Go.RowKit
attribute [local go_sem] After.cell After.frozen After.lt After.le After.ne After.ne' After.set_eq After.size_set After.lt_add

theorem after_ofB {x w1 : World} (h : Below x.heap.size x w1) : ∃ y : After x, w1 = y.w := ⟨⟨w1, h⟩, rfl⟩
theorem res22 (w : World) {B C : Nat} {u0 u1 u2 u3 : Value} (v0 v1 v2 v3 : Value) (hBC : B ≠ C) (h0 : w.cell? ⟨B, 0, none⟩ = some u0) (h1 : w.cell? ⟨B, 1, none⟩ = some u1) (h2 : w.cell? ⟨C, 0, none⟩ = some u2) (h3 : w.cell? ⟨C, 1, none⟩ = some u3) :
    ((((w.setCell ⟨B, 0, none⟩ v0).setCell ⟨B, 1, none⟩ v1).setCell ⟨C, 0, none⟩ v2).setCell ⟨C, 1, none⟩ v3).cell? ⟨B, 0, none⟩ = some v0 ∧ ((((w.setCell ⟨B, 0, none⟩ v0).setCell ⟨B, 1, none⟩ v1).setCell ⟨C, 0, none⟩ v2).setCell ⟨C, 1, none⟩ v3).cell? ⟨B, 1, none⟩ = some v1 ∧
    ((((w.setCell ⟨B, 0, none⟩ v0).setCell ⟨B, 1, none⟩ v1).setCell ⟨C, 0, none⟩ v2).setCell ⟨C, 1, none⟩ v3).cell? ⟨C, 0, none⟩ = some v2 ∧ ((((w.setCell ⟨B, 0, none⟩ v0).setCell ⟨B, 1, none⟩ v1).setCell ⟨C, 0, none⟩ v2).setCell ⟨C, 1, none⟩ v3).cell? ⟨C, 1, none⟩ = some v3 := by
  have hCB : C ≠ B := fun h => hBC h.symm
  refine ⟨?_, ?_, ?_, ?_⟩
  all_goals simp [go_sem, *]
theorem After.set22 {W : World} (z : After W) {B C n : Nat} {u0 u1 u2 u3 : Value} (v0 v1 v2 v3 : Value) (hBC : B ≠ C) (h0 : z.w.cell? ⟨B, 0, none⟩ = some u0) (h1 : z.w.cell? ⟨B, 1, none⟩ = some u1) (h2 : z.w.cell? ⟨C, 0, none⟩ = some u2) (h3 : z.w.cell? ⟨C, 1, none⟩ = some u3)
    {w : World} (hb : Below n w z.w) (hB : n ≤ B) (hC : n ≤ C) :
    ∃ X, (((z.w.setCell ⟨B, 0, none⟩ v0).setCell ⟨B, 1, none⟩ v1).setCell ⟨C, 0, none⟩ v2).setCell ⟨C, 1, none⟩ v3 = X ∧ X.cell? ⟨B, 0, none⟩ = some v0 ∧ X.cell? ⟨B, 1, none⟩ = some v1 ∧ X.cell? ⟨C, 0, none⟩ = some v2 ∧ X.cell? ⟨C, 1, none⟩ = some v3 ∧ Below n w X := by
  obtain ⟨r0, r1, r2, r3⟩ := res22 z.w v0 v1 v2 v3 hBC h0 h1 h2 h3
  exact ⟨_, rfl, r0, r1, r2, r3, (((hb.setCell hB _).setCell hB _).setCell hC _).setCell hC _⟩
/-- What bedAt hands back in every later world. -/
def BSay (w : World) (v : Value) (i : Int) (bv : BedV) (e : Int) : Prop := ∀ W, Below w.heap.size w W → Calls Tryd.prog 58 #[v, .int .i64 i] W fun r w' => r = .returned (.tuple #[bv.val, .int .i64 e]) ∧ Below W.heap.size W w'

set_option maxRecDepth 100000 in
set_option maxHeartbeats 1000000 in
theorem weight_any (a : Option Addr) (n cap : Nat) (i : Int) (bv : BedV) (e : Int) (w : World) (hB : BSay w (.slice a n cap) i bv e) :
    Calls Tryd.prog 19 #[.slice a n cap, .int .i64 i] w fun r w' => r = .returned (.tuple #[.int .i64 bv.wt, .int .i64 e]) ∧ Below w.heap.size w w' := by
  have HB : Hid (∀ W, Below w.heap.size w W → _) := hB
  clear hB
  simp only [BedV.val] at HB
  go_enter Tryd.func19, Tryd.ntmps19
  go_wp2_with fail
  refine calls_after (HB.out _ (by (repeat' (first | (with_reducible exact Below.refl _ _) | (with_reducible assumption) | (with_reducible refine Below.alloc ?_ ?_ _) | (with_reducible refine Below.drew ?_) | (with_reducible refine below_drewN ?_ _) | (with_reducible refine Below.setCell ?_ ?_ _) | (with_reducible refine below_after ?_ ?_ _) | (with_reducible refine below_set ?_) | (with_reducible refine After.size_le _ ?_) | (with_reducible refine size_alloc_le ?_) | (with_reducible refine size_set_le ?_) | (with_reducible refine size_drewN_le ?_) | go_size)))) ?_
  intro x1
  go_wp2
  go_returns
  exact ⟨rfl, by (repeat' (first | (with_reducible exact Below.refl _ _) | (with_reducible assumption) | (with_reducible refine Below.alloc ?_ ?_ _) | (with_reducible refine Below.drew ?_) | (with_reducible refine below_drewN ?_ _) | (with_reducible refine Below.setCell ?_ ?_ _) | (with_reducible refine below_after ?_ ?_ _) | (with_reducible refine below_set ?_) | (with_reducible refine After.size_le _ ?_) | (with_reducible refine size_alloc_le ?_) | (with_reducible refine size_set_le ?_) | (with_reducible refine size_drewN_le ?_) | go_size))⟩

set_option maxRecDepth 100000 in
set_option maxHeartbeats 2000000 in
theorem centre_err (a : Option Addr) (n cap : Nat) (i : Int) (bv : BedV) (e : Int) (w : World) (hB : BSay w (.slice a n cap) i bv e) (he : (e == 0) = false) :
    Calls Tryd.prog 21 #[.slice a n cap, .int .i64 i] w fun r w' => r = .returned (.tuple #[.agg #[.int .i64 0, .int .i64 0], .agg #[.int .i64 0, .int .i64 0], .int .i64 e]) ∧ Below w.heap.size w w' := by
  have HB : Hid (∀ W, Below w.heap.size w W → _) := hB
  clear hB
  simp only [BedV.val] at HB
  go_enter Tryd.func21, Tryd.ntmps21
  go_wp2_with fail
  refine calls_after (HB.out _ (by (repeat' (first | (with_reducible exact Below.refl _ _) | (with_reducible assumption) | (with_reducible refine Below.alloc ?_ ?_ _) | (with_reducible refine Below.drew ?_) | (with_reducible refine below_drewN ?_ _) | (with_reducible refine Below.setCell ?_ ?_ _) | (with_reducible refine below_after ?_ ?_ _) | (with_reducible refine below_set ?_) | (with_reducible refine After.size_le _ ?_) | (with_reducible refine size_alloc_le ?_) | (with_reducible refine size_set_le ?_) | (with_reducible refine size_drewN_le ?_) | go_size)))) ?_
  intro x1
  have hz_x1 := x1.out.size; (try simp only [World.size_alloc] at hz_x1); (try simp only [World.size_setCell] at hz_x1); (try simp only [World.size_alloc] at hz_x1); have k0_x1 : w.heap.size < x1.w.heap.size := (by omega); have j0_x1 : w.heap.size < x1.w.heap.size + 1 := (by omega); have k1_x1 : w.heap.size + 1 < x1.w.heap.size := (by omega); have j1_x1 : w.heap.size + 1 < x1.w.heap.size + 1 := (by omega)
  go_wp2_with fail
  obtain ⟨X, hX, r0, r1, r2, r3, hb⟩ := x1.set22 (.int .i64 0) (.int .i64 0) (.int .i64 0) (.int .i64 0) (B := w.heap.size) (C := w.heap.size + 1) (u0 := .int .i64 0) (u1 := .int .i64 0) (u2 := .int .i64 0) (u3 := .int .i64 0) (by omega) ((x1.cell _ (by simp <;> omega)).trans (by simp [go_sem])) ((x1.cell _ (by simp <;> omega)).trans (by simp [go_sem])) ((x1.cell _ (by simp <;> omega)).trans (by simp [go_sem])) ((x1.cell _ (by simp <;> omega)).trans (by simp [go_sem]))
    (n := w.heap.size) (w := w) (by (repeat' (first | (with_reducible exact Below.refl _ _) | (with_reducible assumption) | (with_reducible refine Below.alloc ?_ ?_ _) | (with_reducible refine Below.drew ?_) | (with_reducible refine below_drewN ?_ _) | (with_reducible refine Below.setCell ?_ ?_ _) | (with_reducible refine below_after ?_ ?_ _) | (with_reducible refine below_set ?_) | (with_reducible refine After.size_le _ ?_) | (with_reducible refine size_alloc_le ?_) | (with_reducible refine size_set_le ?_) | (with_reducible refine size_drewN_le ?_) | go_size))) (Nat.le_refl _) (by omega)
  simp only [← After.set_eq]
  rw [hX]
  exact bodyPost_ret (v := .tuple #[.agg #[.int .i64 0, .int .i64 0], .agg #[.int .i64 0, .int .i64 0], .int .i64 e]) (by simp [results, Tryd.results21, go_sem, keep_alloc r0, keep_alloc r1, keep_alloc r2, keep_alloc r3]) rfl ⟨rfl, hb.alloc hb.size _⟩
set_option maxRecDepth 100000 in
set_option maxHeartbeats 4000000 in
theorem centre_ok (a : Option Addr) (n cap : Nat) (i : Int) (bv : BedV) (w : World) (hB : BSay w (.slice a n cap) i bv 0) (hI : InB bv) :
    Calls Tryd.prog 21 #[.slice a n cap, .int .i64 i] w fun r w' => r = .returned (.tuple #[.agg #[.int .i64 (ratN bv.ea bv.wt), .int .i64 (ratD bv.ea bv.wt)], .agg #[.int .i64 (ratN bv.no bv.wt), .int .i64 (ratD bv.no bv.wt)], .int .i64 0]) ∧ Below w.heap.size w w' := by
  have HB : Hid (∀ W, Below w.heap.size w W → _) := hB
  obtain ⟨b1, b2, b3, b4, b5, b6, b7, b8, b9, b10, b11, b12⟩ := hI
  have HR1 := Lib.hid (fun W => sratio_any bv.ea bv.wt W (by omega) (by omega) b1 (by omega))
  have HR2 := Lib.hid (fun W => sratio_any bv.no bv.wt W (by omega) (by omega) b1 (by omega))
  clear hB
  simp only [BedV.val] at HB
  go_enter Tryd.func21, Tryd.ntmps21
  go_wp2_with fail
  refine calls_after (HB.out _ (by (repeat' (first | (with_reducible exact Below.refl _ _) | (with_reducible assumption) | (with_reducible refine Below.alloc ?_ ?_ _) | (with_reducible refine Below.drew ?_) | (with_reducible refine below_drewN ?_ _) | (with_reducible refine Below.setCell ?_ ?_ _) | (with_reducible refine below_after ?_ ?_ _) | (with_reducible refine below_set ?_) | (with_reducible refine After.size_le _ ?_) | (with_reducible refine size_alloc_le ?_) | (with_reducible refine size_set_le ?_) | (with_reducible refine size_drewN_le ?_) | go_size)))) ?_
  intro x1
  have hz_x1 := x1.out.size; (try simp only [World.size_alloc] at hz_x1); (try simp only [World.size_setCell] at hz_x1); (try simp only [World.size_alloc] at hz_x1); have k0_x1 : w.heap.size < x1.w.heap.size := (by omega); have j0_x1 : w.heap.size < x1.w.heap.size + 1 := (by omega); have k1_x1 : w.heap.size + 1 < x1.w.heap.size := (by omega); have j1_x1 : w.heap.size + 1 < x1.w.heap.size + 1 := (by omega)
  go_wp2_with fail
  have nb := new_bed x1.w bv
  obtain ⟨y, hy⟩ := after_ofB (x1.out.alloc x1.out.size (.cells #[.int .i64 bv.ix, .int .i64 (bv.c 0), .int .i64 (bv.c 1), .int .i64 (bv.c 2), .int .i64 (bv.c 3), .int .i64 (bv.c 4), .int .i64 (bv.c 5), .int .i64 bv.wt, .int .i64 bv.ea, .int .i64 bv.no, .int .i64 bv.fa, .int .i64 bv.pu] 64))
  rw [hy] at nb ⊢
  have hsy : y.w.heap.size = x1.w.heap.size + 1 := by rw [← hy]; simp
  clear hy
  have hz := y.out.size
  obtain ⟨c0, c1, c2, c3, c4, c5, c6, c7, c8, c9, c10, c11, cf⟩ := nb
  have hz_y := y.out.size; (try simp only [World.size_alloc] at hz_y); (try simp only [World.size_setCell] at hz_y); (try simp only [World.size_alloc] at hz_y); have k0_y : w.heap.size < y.w.heap.size := (by omega); have j0_y : w.heap.size < y.w.heap.size + 1 := (by omega); have k1_y : w.heap.size + 1 < y.w.heap.size := (by omega); have j1_y : w.heap.size + 1 < y.w.heap.size + 1 := (by omega); have k2_y : x1.w.heap.size < y.w.heap.size := (by omega); have j2_y : x1.w.heap.size < y.w.heap.size + 1 := (by omega)
  refine wp_region_after_tail 10 (by kernel_rfl) (by kernel_rfl) ?_; simp only [List.take_succ_cons, List.take_zero, List.drop_succ_cons, List.drop_zero]; (repeat (first | go_big_quiet_step ((first | (go_at_call 61; first | with_reducible exact quiet_after (HR1.out _) | with_reducible exact quiet_after (HR2.out _)))) | (refine wpQuiet_step (fun K hK => ?_); go_simp; first | (refine hK _ ?_; clear hK K) | (apply Exists.intro; refine ⟨fun x => ?_, hK _ ?_⟩; (first | (go_at_call 61; first | with_reducible exact quiet_after (HR1.out _) | with_reducible exact quiet_after (HR2.out _))); clear hK K)))); refine wpQuiet_nil ?_
  intro x3
  have hz_x3 := x3.out.size; (try simp only [World.size_alloc] at hz_x3); (try simp only [World.size_setCell] at hz_x3); (try simp only [World.size_alloc] at hz_x3); have k0_x3 : w.heap.size < x3.w.heap.size := (by omega); have j0_x3 : w.heap.size < x3.w.heap.size + 1 := (by omega); have k1_x3 : w.heap.size + 1 < x3.w.heap.size := (by omega); have j1_x3 : w.heap.size + 1 < x3.w.heap.size + 1 := (by omega); have k2_x3 : x1.w.heap.size < x3.w.heap.size := (by omega); have j2_x3 : x1.w.heap.size < x3.w.heap.size + 1 := (by omega)
  go_wp2_with fail
  obtain ⟨X, hX, r0, r1, r2, r3, hb⟩ := x3.set22 (.int .i64 (ratN bv.ea bv.wt)) (.int .i64 (ratD bv.ea bv.wt)) (.int .i64 (ratN bv.no bv.wt)) (.int .i64 (ratD bv.no bv.wt)) (B := w.heap.size) (C := w.heap.size + 1) (u0 := .int .i64 0) (u1 := .int .i64 0) (u2 := .int .i64 0) (u3 := .int .i64 0) (by omega) (by simp [go_sem, *]) (by simp [go_sem, *]) (by simp [go_sem, *]) (by simp [go_sem, *])
    (n := w.heap.size) (w := w) (by (repeat' (first | (with_reducible exact Below.refl _ _) | (with_reducible assumption) | (with_reducible refine Below.alloc ?_ ?_ _) | (with_reducible refine Below.drew ?_) | (with_reducible refine below_drewN ?_ _) | (with_reducible refine Below.setCell ?_ ?_ _) | (with_reducible refine below_after ?_ ?_ _) | (with_reducible refine below_set ?_) | (with_reducible refine After.size_le _ ?_) | (with_reducible refine size_alloc_le ?_) | (with_reducible refine size_set_le ?_) | (with_reducible refine size_drewN_le ?_) | go_size))) (Nat.le_refl _) (by omega)
  simp only [← After.set_eq]
  rw [hX]
  exact bodyPost_ret (v := .tuple #[.agg #[.int .i64 (ratN bv.ea bv.wt), .int .i64 (ratD bv.ea bv.wt)], .agg #[.int .i64 (ratN bv.no bv.wt), .int .i64 (ratD bv.no bv.wt)], .int .i64 0]) (by simp [results, Tryd.results21, go_sem, r0, r1, r2, r3]) rfl ⟨rfl, hb⟩
end Go.Proofs.YtplhbklfaokjbaaDoor
