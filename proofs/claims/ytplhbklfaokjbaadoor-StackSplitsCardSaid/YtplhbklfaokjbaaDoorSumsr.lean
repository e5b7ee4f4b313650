/- bedError, Weight and Centre in the reference. -/
import Derived.Test.YtplhbklfaokjbaaDoorOverb
import Derived.Test.YtplhbklfaokjbaaDoorSumsp
namespace Go.Proofs.YtplhbklfaokjbaaDoor
open Go.RowKit
attribute [local go_sem] After.cell After.frozen After.lt After.le After.ne After.ne' After.set_eq After.size_set After.lt_add

/-- The first error of a good stack's bed, a pressure and a side. -/
def beE (n : Nat) (i p s : Int) : Int := if Btw i 0 ((n : Int) - 1) ∧ WindOk p s then 0 else 7
theorem beE_plain {n : Nat} {i : Int} : beE n i 0 0 = bdE n i := by
  unfold beE bdE WindOk Btw
  by_cases h : 0 ≤ i ∧ i < n
  · rw [if_pos h, if_pos (by omega)]
  · rw [if_neg h, if_neg (by omega)]
theorem bedError_bad (a : Option Addr) (n cap : Nat) (i p s : Int) (w : World) (hv : RCSay w (.slice a n cap) false) :
    Calls Tryd.prog 59 #[.slice a n cap, .int .i64 i, .int .i64 p, .int .i64 s] w fun r w' => r = .returned (.int .i64 1) ∧ Below w.heap.size w w' := by
  have HV : Hid (∀ W, Below w.heap.size w W → _) := hv
  clear hv
  go_enter Tryd.func59, Tryd.ntmps59
  go_wp2_with fail
  refine calls_after (HV.out _ (by (repeat' (first | (with_reducible exact Below.refl _ _) | (with_reducible assumption) | (with_reducible refine Below.alloc ?_ ?_ _) | (with_reducible refine Below.drew ?_) | (with_reducible refine below_drewN ?_ _) | (with_reducible refine Below.setCell ?_ ?_ _) | (with_reducible refine below_after ?_ ?_ _) | (with_reducible refine below_set ?_) | (with_reducible refine After.size_le _ ?_) | (with_reducible refine size_alloc_le ?_) | (with_reducible refine size_set_le ?_) | (with_reducible refine size_drewN_le ?_) | go_size)))) ?_
  intro x1
  go_wp2
  go_ret
  exact ⟨rfl, by (repeat' (first | (with_reducible exact Below.refl _ _) | (with_reducible assumption) | (with_reducible refine Below.alloc ?_ ?_ _) | (with_reducible refine Below.drew ?_) | (with_reducible refine below_drewN ?_ _) | (with_reducible refine Below.setCell ?_ ?_ _) | (with_reducible refine below_after ?_ ?_ _) | (with_reducible refine below_set ?_) | (with_reducible refine After.size_le _ ?_) | (with_reducible refine size_alloc_le ?_) | (with_reducible refine size_set_le ?_) | (with_reducible refine size_drewN_le ?_) | go_size))⟩
set_option maxRecDepth 100000 in
set_option maxHeartbeats 1000000 in
theorem bedError_ok (a : Option Addr) (n cap : Nat) (i p s : Int) (w : World) (hn : n ≤ 1000) (hv : RCSay w (.slice a n cap) true) :
    Calls Tryd.prog 59 #[.slice a n cap, .int .i64 i, .int .i64 p, .int .i64 s] w fun r w' => r = .returned (.int .i64 (beE n i p s)) ∧ Below w.heap.size w w' := by
  have HV : Hid (∀ W, Below w.heap.size w W → _) := hv
  clear hv
  have H1 := Lib.hid (within_any i 0 ((n : Int) - 1))
  have H2 := Lib.hid (within_any p 0 10000)
  have H3 := Lib.hid (within_any s 0 3)
  have hnI : (n : Int) ≤ 1000 := by omega
  by_cases h1 : Btw i 0 ((n : Int) - 1)
  · rw [decide_eq_true h1] at H1
    by_cases h2 : Btw p 0 10000
    · rw [decide_eq_true h2] at H2
      by_cases h3 : Btw s 0 3
      · rw [decide_eq_true h3] at H3
        have e : beE n i p s = 0 := if_pos ⟨h1, h2, h3⟩
        rw [e]
        clear h1 h2 h3 e
        go_enter Tryd.func59, Tryd.ntmps59
        (go_wp2_with fail); refine calls_after (HV.out _ (by (repeat' (first | (with_reducible exact Below.refl _ _) | (with_reducible assumption) | (with_reducible refine Below.alloc ?_ ?_ _) | (with_reducible refine Below.drew ?_) | (with_reducible refine below_drewN ?_ _) | (with_reducible refine Below.setCell ?_ ?_ _) | (with_reducible refine below_after ?_ ?_ _) | (with_reducible refine below_set ?_) | (with_reducible refine After.size_le _ ?_) | (with_reducible refine size_alloc_le ?_) | (with_reducible refine size_set_le ?_) | (with_reducible refine size_drewN_le ?_) | go_size)))) ?_; intro x1
        (go_wp2_with fail); refine calls_after2 (H1.out _) ?_; intro x2
        (go_wp2_with fail); refine calls_after2 (H2.out _) ?_; intro x3
        (go_wp2_with fail); refine calls_after2 (H3.out _) ?_; intro x4
        go_wp2
        go_ret
        exact ⟨rfl, by (repeat' (first | (with_reducible exact Below.refl _ _) | (with_reducible assumption) | (with_reducible refine Below.alloc ?_ ?_ _) | (with_reducible refine Below.drew ?_) | (with_reducible refine below_drewN ?_ _) | (with_reducible refine Below.setCell ?_ ?_ _) | (with_reducible refine below_after ?_ ?_ _) | (with_reducible refine below_set ?_) | (with_reducible refine After.size_le _ ?_) | (with_reducible refine size_alloc_le ?_) | (with_reducible refine size_set_le ?_) | (with_reducible refine size_drewN_le ?_) | go_size))⟩
      · rw [decide_eq_false h3] at H3
        have e : beE n i p s = 7 := if_neg (fun h => h3 h.2.2)
        rw [e]
        clear h1 h2 h3 e
        go_enter Tryd.func59, Tryd.ntmps59
        (go_wp2_with fail); refine calls_after (HV.out _ (by (repeat' (first | (with_reducible exact Below.refl _ _) | (with_reducible assumption) | (with_reducible refine Below.alloc ?_ ?_ _) | (with_reducible refine Below.drew ?_) | (with_reducible refine below_drewN ?_ _) | (with_reducible refine Below.setCell ?_ ?_ _) | (with_reducible refine below_after ?_ ?_ _) | (with_reducible refine below_set ?_) | (with_reducible refine After.size_le _ ?_) | (with_reducible refine size_alloc_le ?_) | (with_reducible refine size_set_le ?_) | (with_reducible refine size_drewN_le ?_) | go_size)))) ?_; intro x1
        (go_wp2_with fail); refine calls_after2 (H1.out _) ?_; intro x2
        (go_wp2_with fail); refine calls_after2 (H2.out _) ?_; intro x3
        (go_wp2_with fail); refine calls_after2 (H3.out _) ?_; intro x4
        go_wp2
        go_ret
        exact ⟨rfl, by (repeat' (first | (with_reducible exact Below.refl _ _) | (with_reducible assumption) | (with_reducible refine Below.alloc ?_ ?_ _) | (with_reducible refine Below.drew ?_) | (with_reducible refine below_drewN ?_ _) | (with_reducible refine Below.setCell ?_ ?_ _) | (with_reducible refine below_after ?_ ?_ _) | (with_reducible refine below_set ?_) | (with_reducible refine After.size_le _ ?_) | (with_reducible refine size_alloc_le ?_) | (with_reducible refine size_set_le ?_) | (with_reducible refine size_drewN_le ?_) | go_size))⟩
    · rw [decide_eq_false h2] at H2
      have e : beE n i p s = 7 := if_neg (fun h => h2 h.2.1)
      rw [e]
      clear h1 h2 e
      go_enter Tryd.func59, Tryd.ntmps59
      (go_wp2_with fail); refine calls_after (HV.out _ (by (repeat' (first | (with_reducible exact Below.refl _ _) | (with_reducible assumption) | (with_reducible refine Below.alloc ?_ ?_ _) | (with_reducible refine Below.drew ?_) | (with_reducible refine below_drewN ?_ _) | (with_reducible refine Below.setCell ?_ ?_ _) | (with_reducible refine below_after ?_ ?_ _) | (with_reducible refine below_set ?_) | (with_reducible refine After.size_le _ ?_) | (with_reducible refine size_alloc_le ?_) | (with_reducible refine size_set_le ?_) | (with_reducible refine size_drewN_le ?_) | go_size)))) ?_; intro x1
      (go_wp2_with fail); refine calls_after2 (H1.out _) ?_; intro x2
      (go_wp2_with fail); refine calls_after2 (H2.out _) ?_; intro x3
      go_wp2
      go_ret
      exact ⟨rfl, by (repeat' (first | (with_reducible exact Below.refl _ _) | (with_reducible assumption) | (with_reducible refine Below.alloc ?_ ?_ _) | (with_reducible refine Below.drew ?_) | (with_reducible refine below_drewN ?_ _) | (with_reducible refine Below.setCell ?_ ?_ _) | (with_reducible refine below_after ?_ ?_ _) | (with_reducible refine below_set ?_) | (with_reducible refine After.size_le _ ?_) | (with_reducible refine size_alloc_le ?_) | (with_reducible refine size_set_le ?_) | (with_reducible refine size_drewN_le ?_) | go_size))⟩
  · rw [decide_eq_false h1] at H1
    have e : beE n i p s = 7 := if_neg (fun h => h1 h.1)
    rw [e]
    clear h1 e
    go_enter Tryd.func59, Tryd.ntmps59
    (go_wp2_with fail); refine calls_after (HV.out _ (by (repeat' (first | (with_reducible exact Below.refl _ _) | (with_reducible assumption) | (with_reducible refine Below.alloc ?_ ?_ _) | (with_reducible refine Below.drew ?_) | (with_reducible refine below_drewN ?_ _) | (with_reducible refine Below.setCell ?_ ?_ _) | (with_reducible refine below_after ?_ ?_ _) | (with_reducible refine below_set ?_) | (with_reducible refine After.size_le _ ?_) | (with_reducible refine size_alloc_le ?_) | (with_reducible refine size_set_le ?_) | (with_reducible refine size_drewN_le ?_) | go_size)))) ?_; intro x1
    (go_wp2_with fail); refine calls_after2 (H1.out _) ?_; intro x2
    go_wp2
    go_ret
    exact ⟨rfl, by (repeat' (first | (with_reducible exact Below.refl _ _) | (with_reducible assumption) | (with_reducible refine Below.alloc ?_ ?_ _) | (with_reducible refine Below.drew ?_) | (with_reducible refine below_drewN ?_ _) | (with_reducible refine Below.setCell ?_ ?_ _) | (with_reducible refine below_after ?_ ?_ _) | (with_reducible refine below_set ?_) | (with_reducible refine After.size_le _ ?_) | (with_reducible refine size_alloc_le ?_) | (with_reducible refine size_set_le ?_) | (with_reducible refine size_drewN_le ?_) | go_size))⟩

/-- What bedError and over answer in every later world. -/
def ESay (w : World) (v : Value) (i p s e : Int) : Prop := ∀ W, Below w.heap.size w W → Calls Tryd.prog 59 #[v, .int .i64 i, .int .i64 p, .int .i64 s] W fun r w' => r = .returned (.int .i64 e) ∧ Below W.heap.size W w'
def OSay (w : World) (v : Value) (i : Int) (bv : BedV) : Prop := ∀ W, Below w.heap.size w W → Calls Tryd.prog 60 #[v, .int .i64 i] W fun r w' => r = .returned (abV bv) ∧ Below W.heap.size W w'

set_option maxRecDepth 100000 in
theorem rweight_err (a : Option Addr) (n cap : Nat) (i e : Int) (w : World) (hE : ESay w (.slice a n cap) i 0 0 e) (he : (e == 0) = false) :
    Calls Tryd.prog 20 #[.slice a n cap, .int .i64 i] w fun r w' => r = .returned (.tuple #[.int .i64 0, .int .i64 e]) ∧ Below w.heap.size w w' := by
  have HE : Hid (∀ W, Below w.heap.size w W → _) := hE
  clear hE
  go_enter Tryd.func20, Tryd.ntmps20
  (go_wp2_with fail); refine calls_after (HE.out _ (by (repeat' (first | (with_reducible exact Below.refl _ _) | (with_reducible assumption) | (with_reducible refine Below.alloc ?_ ?_ _) | (with_reducible refine Below.drew ?_) | (with_reducible refine below_drewN ?_ _) | (with_reducible refine Below.setCell ?_ ?_ _) | (with_reducible refine below_after ?_ ?_ _) | (with_reducible refine below_set ?_) | (with_reducible refine After.size_le _ ?_) | (with_reducible refine size_alloc_le ?_) | (with_reducible refine size_set_le ?_) | (with_reducible refine size_drewN_le ?_) | go_size)))) ?_; intro x1
  go_wp2
  go_returns
  exact ⟨rfl, by (repeat' (first | (with_reducible exact Below.refl _ _) | (with_reducible assumption) | (with_reducible refine Below.alloc ?_ ?_ _) | (with_reducible refine Below.drew ?_) | (with_reducible refine below_drewN ?_ _) | (with_reducible refine Below.setCell ?_ ?_ _) | (with_reducible refine below_after ?_ ?_ _) | (with_reducible refine below_set ?_) | (with_reducible refine After.size_le _ ?_) | (with_reducible refine size_alloc_le ?_) | (with_reducible refine size_set_le ?_) | (with_reducible refine size_drewN_le ?_) | go_size))⟩
theorem field_above (x y z u : Int) (w : World) : (Instr.field 69 (.agg #[.int .i64 x, .int .i64 y, .int .i64 z, .int .i64 u]) 0).run Tryd.prog w = .ok (.int .i64 x) w := by
  simp [Instr.field, go_sem, run_underlying, part, isAgg, asAgg]
set_option maxRecDepth 100000 in
theorem rweight_ok (a : Option Addr) (n cap : Nat) (i : Int) (bv : BedV) (w : World) (hE : ESay w (.slice a n cap) i 0 0 0) (hO : OSay w (.slice a n cap) i bv) :
    Calls Tryd.prog 20 #[.slice a n cap, .int .i64 i] w fun r w' => r = .returned (.tuple #[.int .i64 bv.wt, .int .i64 0]) ∧ Below w.heap.size w w' := by
  have HE : Hid (∀ W, Below w.heap.size w W → _) := hE
  have HO : Hid (∀ W, Below w.heap.size w W → _) := hO
  clear hE hO
  simp only [abV] at HO
  go_enter Tryd.func20, Tryd.ntmps20
  (go_wp2_with fail); refine calls_after (HE.out _ (by (repeat' (first | (with_reducible exact Below.refl _ _) | (with_reducible assumption) | (with_reducible refine Below.alloc ?_ ?_ _) | (with_reducible refine Below.drew ?_) | (with_reducible refine below_drewN ?_ _) | (with_reducible refine Below.setCell ?_ ?_ _) | (with_reducible refine below_after ?_ ?_ _) | (with_reducible refine below_set ?_) | (with_reducible refine After.size_le _ ?_) | (with_reducible refine size_alloc_le ?_) | (with_reducible refine size_set_le ?_) | (with_reducible refine size_drewN_le ?_) | go_size)))) ?_; intro x1
  (go_wp2_with fail); refine calls_after2 (HO.out _ (by (repeat' (first | (with_reducible exact Below.refl _ _) | (with_reducible assumption) | (with_reducible refine Below.alloc ?_ ?_ _) | (with_reducible refine Below.drew ?_) | (with_reducible refine below_drewN ?_ _) | (with_reducible refine Below.setCell ?_ ?_ _) | (with_reducible refine below_after ?_ ?_ _) | (with_reducible refine below_set ?_) | (with_reducible refine After.size_le _ ?_) | (with_reducible refine size_alloc_le ?_) | (with_reducible refine size_set_le ?_) | (with_reducible refine size_drewN_le ?_) | go_size)))) ?_; intro x2
  have hf := field_above bv.wt bv.ea bv.no bv.pu x2.w
  go_wp2
  go_returns
  exact ⟨rfl, by (repeat' (first | (with_reducible exact Below.refl _ _) | (with_reducible assumption) | (with_reducible refine Below.alloc ?_ ?_ _) | (with_reducible refine Below.drew ?_) | (with_reducible refine below_drewN ?_ _) | (with_reducible refine Below.setCell ?_ ?_ _) | (with_reducible refine below_after ?_ ?_ _) | (with_reducible refine below_set ?_) | (with_reducible refine After.size_le _ ?_) | (with_reducible refine size_alloc_le ?_) | (with_reducible refine size_set_le ?_) | (with_reducible refine size_drewN_le ?_) | go_size))⟩

set_option maxRecDepth 100000 in
set_option maxHeartbeats 1000000 in
theorem rcentre_err (a : Option Addr) (n cap : Nat) (i e : Int) (w : World) (hE : ESay w (.slice a n cap) i 0 0 e) (he : (e == 0) = false) :
    Calls Tryd.prog 22 #[.slice a n cap, .int .i64 i] w fun r w' => r = .returned (.tuple #[.agg #[.int .i64 0, .int .i64 0], .agg #[.int .i64 0, .int .i64 0], .int .i64 e]) ∧ Below w.heap.size w w' := by
  have HE : Hid (∀ W, Below w.heap.size w W → _) := hE
  clear hE
  go_enter Tryd.func22, Tryd.ntmps22
  (go_wp2_with fail); refine calls_after (HE.out _ (by (repeat' (first | (with_reducible exact Below.refl _ _) | (with_reducible assumption) | (with_reducible refine Below.alloc ?_ ?_ _) | (with_reducible refine Below.drew ?_) | (with_reducible refine below_drewN ?_ _) | (with_reducible refine Below.setCell ?_ ?_ _) | (with_reducible refine below_after ?_ ?_ _) | (with_reducible refine below_set ?_) | (with_reducible refine After.size_le _ ?_) | (with_reducible refine size_alloc_le ?_) | (with_reducible refine size_set_le ?_) | (with_reducible refine size_drewN_le ?_) | go_size)))) ?_; intro x1; have hz_x1 := x1.out.size; (try simp only [World.size_alloc] at hz_x1); (try simp only [World.size_setCell] at hz_x1); (try simp only [World.size_alloc] at hz_x1); have k0_x1 : w.heap.size < x1.w.heap.size := (by omega); have j0_x1 : w.heap.size < x1.w.heap.size + 1 := (by omega); have k1_x1 : w.heap.size + 1 < x1.w.heap.size := (by omega); have j1_x1 : w.heap.size + 1 < x1.w.heap.size + 1 := (by omega)
  go_wp2_with fail
  obtain ⟨X, hX, r0, r1, r2, r3, hb⟩ := x1.set22 (.int .i64 0) (.int .i64 0) (.int .i64 0) (.int .i64 0) (B := w.heap.size) (C := w.heap.size + 1) (u0 := .int .i64 0) (u1 := .int .i64 0) (u2 := .int .i64 0) (u3 := .int .i64 0) (by omega) ((x1.cell _ (by simp <;> omega)).trans (by simp [go_sem])) ((x1.cell _ (by simp <;> omega)).trans (by simp [go_sem])) ((x1.cell _ (by simp <;> omega)).trans (by simp [go_sem])) ((x1.cell _ (by simp <;> omega)).trans (by simp [go_sem]))
    (n := w.heap.size) (w := w) (by (repeat' (first | (with_reducible exact Below.refl _ _) | (with_reducible assumption) | (with_reducible refine Below.alloc ?_ ?_ _) | (with_reducible refine Below.drew ?_) | (with_reducible refine below_drewN ?_ _) | (with_reducible refine Below.setCell ?_ ?_ _) | (with_reducible refine below_after ?_ ?_ _) | (with_reducible refine below_set ?_) | (with_reducible refine After.size_le _ ?_) | (with_reducible refine size_alloc_le ?_) | (with_reducible refine size_set_le ?_) | (with_reducible refine size_drewN_le ?_) | go_size))) (Nat.le_refl _) (by omega)
  simp only [← After.set_eq]
  rw [hX]
  exact bodyPost_ret (v := .tuple #[.agg #[.int .i64 0, .int .i64 0], .agg #[.int .i64 0, .int .i64 0], .int .i64 e]) (by simp [results, Tryd.results22, go_sem, r0, r1, r2, r3]) rfl ⟨rfl, hb⟩
theorem new_ab (V : World) (v : BedV) : AbC (V.alloc (.cells #[.int .i64 v.wt, .int .i64 v.ea, .int .i64 v.no, .int .i64 v.pu] 69)) V.heap.size v.wt v.ea v.no v.pu := by
  refine ⟨?_, ?_, ?_, ?_, fun o => ?_⟩
  all_goals simp [go_sem]
set_option maxRecDepth 100000 in
set_option maxHeartbeats 4000000 in
theorem rcentre_ok (a : Option Addr) (n cap : Nat) (i : Int) (bv : BedV) (w : World) (hE : ESay w (.slice a n cap) i 0 0 0) (hO : OSay w (.slice a n cap) i bv) (hI : InB bv) :
    Calls Tryd.prog 22 #[.slice a n cap, .int .i64 i] w fun r w' => r = .returned (.tuple #[.agg #[.int .i64 (ratN bv.ea bv.wt), .int .i64 (ratD bv.ea bv.wt)], .agg #[.int .i64 (ratN bv.no bv.wt), .int .i64 (ratD bv.no bv.wt)], .int .i64 0]) ∧ Below w.heap.size w w' := by
  have HE : Hid (∀ W, Below w.heap.size w W → _) := hE
  have HO : Hid (∀ W, Below w.heap.size w W → _) := hO
  obtain ⟨b1, b2, b3, b4, b5, b6, b7, b8, b9, b10, b11, b12⟩ := hI
  have HR1 := Lib.hid (fun W => rlowest_any bv.ea bv.wt W (by omega) (by omega) b1 (by omega))
  have HR2 := Lib.hid (fun W => rlowest_any bv.no bv.wt W (by omega) (by omega) b1 (by omega))
  clear hE hO
  simp only [abV] at HO
  go_enter Tryd.func22, Tryd.ntmps22
  (go_wp2_with fail); refine calls_after (HE.out _ (by (repeat' (first | (with_reducible exact Below.refl _ _) | (with_reducible assumption) | (with_reducible refine Below.alloc ?_ ?_ _) | (with_reducible refine Below.drew ?_) | (with_reducible refine below_drewN ?_ _) | (with_reducible refine Below.setCell ?_ ?_ _) | (with_reducible refine below_after ?_ ?_ _) | (with_reducible refine below_set ?_) | (with_reducible refine After.size_le _ ?_) | (with_reducible refine size_alloc_le ?_) | (with_reducible refine size_set_le ?_) | (with_reducible refine size_drewN_le ?_) | go_size)))) ?_; intro x1; have hz_x1 := x1.out.size; (try simp only [World.size_alloc] at hz_x1); (try simp only [World.size_setCell] at hz_x1); (try simp only [World.size_alloc] at hz_x1); have k0_x1 : w.heap.size < x1.w.heap.size := (by omega); have j0_x1 : w.heap.size < x1.w.heap.size + 1 := (by omega); have k1_x1 : w.heap.size + 1 < x1.w.heap.size := (by omega); have j1_x1 : w.heap.size + 1 < x1.w.heap.size + 1 := (by omega)
  (go_wp2_with fail); refine calls_after2 (HO.out _ (by (repeat' (first | (with_reducible exact Below.refl _ _) | (with_reducible assumption) | (with_reducible refine Below.alloc ?_ ?_ _) | (with_reducible refine Below.drew ?_) | (with_reducible refine below_drewN ?_ _) | (with_reducible refine Below.setCell ?_ ?_ _) | (with_reducible refine below_after ?_ ?_ _) | (with_reducible refine below_set ?_) | (with_reducible refine After.size_le _ ?_) | (with_reducible refine size_alloc_le ?_) | (with_reducible refine size_set_le ?_) | (with_reducible refine size_drewN_le ?_) | go_size)))) ?_; intro x2; have hz_x2 := x2.out.size; (try simp only [World.size_alloc] at hz_x2); (try simp only [World.size_setCell] at hz_x2); (try simp only [World.size_alloc] at hz_x2); have k0_x2 : w.heap.size < x2.w.heap.size := (by omega); have j0_x2 : w.heap.size < x2.w.heap.size + 1 := (by omega); have k1_x2 : w.heap.size + 1 < x2.w.heap.size := (by omega); have j1_x2 : w.heap.size + 1 < x2.w.heap.size + 1 := (by omega)
  go_wp2_with fail
  have nb := new_ab x2.w bv
  obtain ⟨y, hy⟩ := after_ofB (x2.out.alloc x2.out.size (.cells #[.int .i64 bv.wt, .int .i64 bv.ea, .int .i64 bv.no, .int .i64 bv.pu] 69))
  rw [hy] at nb ⊢
  have hsy : y.w.heap.size = x2.w.heap.size + 1 := by rw [← hy]; simp
  clear hy
  have hz := y.out.size
  obtain ⟨c0, c1, c2, c3, cf⟩ := nb
  have hz_y := y.out.size; (try simp only [World.size_alloc] at hz_y); (try simp only [World.size_setCell] at hz_y); (try simp only [World.size_alloc] at hz_y); have k0_y : w.heap.size < y.w.heap.size := (by omega); have j0_y : w.heap.size < y.w.heap.size + 1 := (by omega); have k1_y : w.heap.size + 1 < y.w.heap.size := (by omega); have j1_y : w.heap.size + 1 < y.w.heap.size + 1 := (by omega); have k2_y : x2.w.heap.size < y.w.heap.size := (by omega); have j2_y : x2.w.heap.size < y.w.heap.size + 1 := (by omega)
  refine wp_region_after_tail 10 (by kernel_rfl) (by kernel_rfl) ?_; simp only [List.take_succ_cons, List.take_zero, List.drop_succ_cons, List.drop_zero]; (repeat (first | go_big_quiet_step ((first | (go_at_call 53; first | with_reducible exact quiet_after (HR1.out _) | with_reducible exact quiet_after (HR2.out _)))) | (refine wpQuiet_step (fun K hK => ?_); go_simp; first | (refine hK _ ?_; clear hK K) | (apply Exists.intro; refine ⟨fun x => ?_, hK _ ?_⟩; (first | (go_at_call 53; first | with_reducible exact quiet_after (HR1.out _) | with_reducible exact quiet_after (HR2.out _))); clear hK K)))); refine wpQuiet_nil ?_
  intro x3
  have hz_x3 := x3.out.size; (try simp only [World.size_alloc] at hz_x3); (try simp only [World.size_setCell] at hz_x3); (try simp only [World.size_alloc] at hz_x3); have k0_x3 : w.heap.size < x3.w.heap.size := (by omega); have j0_x3 : w.heap.size < x3.w.heap.size + 1 := (by omega); have k1_x3 : w.heap.size + 1 < x3.w.heap.size := (by omega); have j1_x3 : w.heap.size + 1 < x3.w.heap.size + 1 := (by omega); have k2_x3 : x2.w.heap.size < x3.w.heap.size := (by omega); have j2_x3 : x2.w.heap.size < x3.w.heap.size + 1 := (by omega)
  go_wp2_with fail
  obtain ⟨X, hX, r0, r1, r2, r3, hb⟩ := x3.set22 (.int .i64 (ratN bv.ea bv.wt)) (.int .i64 (ratD bv.ea bv.wt)) (.int .i64 (ratN bv.no bv.wt)) (.int .i64 (ratD bv.no bv.wt)) (B := w.heap.size) (C := w.heap.size + 1) (u0 := .int .i64 0) (u1 := .int .i64 0) (u2 := .int .i64 0) (u3 := .int .i64 0) (by omega) (by simp [go_sem, *]) (by simp [go_sem, *]) (by simp [go_sem, *]) (by simp [go_sem, *])
    (n := w.heap.size) (w := w) (by (repeat' (first | (with_reducible exact Below.refl _ _) | (with_reducible assumption) | (with_reducible refine Below.alloc ?_ ?_ _) | (with_reducible refine Below.drew ?_) | (with_reducible refine below_drewN ?_ _) | (with_reducible refine Below.setCell ?_ ?_ _) | (with_reducible refine below_after ?_ ?_ _) | (with_reducible refine below_set ?_) | (with_reducible refine After.size_le _ ?_) | (with_reducible refine size_alloc_le ?_) | (with_reducible refine size_set_le ?_) | (with_reducible refine size_drewN_le ?_) | go_size))) (Nat.le_refl _) (by omega)
  simp only [← After.set_eq]
  rw [hX]
  exact bodyPost_ret (v := .tuple #[.agg #[.int .i64 (ratN bv.ea bv.wt), .int .i64 (ratD bv.ea bv.wt)], .agg #[.int .i64 (ratN bv.no bv.wt), .int .i64 (ratD bv.no bv.wt)], .int .i64 0]) (by simp [results, Tryd.results22, go_sem, r0, r1, r2, r3]) rfl ⟨rfl, hb⟩
end Go.Proofs.YtplhbklfaokjbaaDoor
