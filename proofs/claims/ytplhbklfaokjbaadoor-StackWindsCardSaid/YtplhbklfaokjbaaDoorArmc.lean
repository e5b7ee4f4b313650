/- The arm of a bed, in parts; the table of the winds. -/
import Derived.Test.YtplhbklfaokjbaaDoorBedat
import Derived.Test.YtplhbklfaokjbaaDoorSrat
namespace Go.Proofs.YtplhbklfaokjbaaDoor
open Go.RowKit
attribute [local go_sem] After.cell After.frozen After.lt After.le After.ne After.ne' After.set_eq After.size_set After.lt_add

def awE (s : Nat) : Int := if s = 0 then -1 else if s = 2 then 1 else 0
def awN (s : Nat) : Int := if s = 1 then -1 else if s = 3 then 1 else 0
/-- The table of the winds lies in its variable. -/
def Tab (W : World) : Prop := ∀ s, s < 4 → W.cell? ⟨0, s * 2, none⟩ = some (.int .i64 (awE s)) ∧ W.cell? ⟨0, s * 2 + 1, none⟩ = some (.int .i64 (awN s))
theorem Tab.on {w W : World} (h : Tab w) (hW : Below w.heap.size w W) : Tab W := fun s hs => by
  have h0 : (0 : Nat) < w.heap.size := World.block_lt_of_cell? w ⟨0, 0, none⟩ (h 0 (by omega)).1
  exact ⟨(hW.cell (p := ⟨0, _, none⟩) h0).trans (h s hs).1, (hW.cell (p := ⟨0, _, none⟩) h0).trans (h s hs).2⟩
theorem Tab.lt {w : World} (h : Tab w) : 0 < w.heap.size := World.block_lt_of_cell? w ⟨0, 0, none⟩ (h 0 (by omega)).1
theorem aw_bd (s : Nat) : -1 ≤ awE s ∧ awE s ≤ 1 ∧ -1 ≤ awN s ∧ awN s ≤ 1 := by
  unfold awE awN
  refine ⟨?_, ?_, ?_, ?_⟩ <;> (repeat' split) <;> omega

def amE (v : BedV) (p : Int) (s : Nat) : Int := (v.ea - v.wt * v.c 4) * 9810000 + awE s * p * v.pu
def amN (v : BedV) (p : Int) (s : Nat) : Int := (v.no - v.wt * v.c 5) * 9810000 + awN s * p * v.pu
/-- The numbers of a bed of a good stack. -/
def InB (v : BedV) : Prop := 1 ≤ v.wt ∧ v.wt ≤ 60000000 ∧ -300000000000 ≤ v.ea ∧ v.ea ≤ 300000000000 ∧ -300000000000 ≤ v.no ∧ v.no ≤ 300000000000 ∧ 0 ≤ v.pu ∧ v.pu ≤ 145200000000000 ∧ -5000 ≤ v.c 4 ∧ v.c 4 ≤ 5000 ∧ -5000 ≤ v.c 5 ∧ v.c 5 ≤ 5000
theorem inB_bI {f : Nat → Nat → Int} {n k : Nat} (hG : GoodC n f) (hk : k < n) : InB (bI f n k) := by
  obtain ⟨h1, h2, h3, h4, h5, h6, h7, h8, h9, h10⟩ := bI_bd hG (k := k) (by omega)
  have hc := (bI_ix (f := f) hk).2
  have hO := hG.2.2 k hk
  unfold OkC InCr at hO
  unfold InB
  rw [hc]
  omega
theorem am_bd {v : BedV} {p : Int} (s : Nat) (h : InB v) (h0 : 0 ≤ p) (h1 : p ≤ 10000) :
    (-600000000000 ≤ v.ea - v.wt * v.c 4 ∧ v.ea - v.wt * v.c 4 ≤ 600000000000) ∧ (-600000000000 ≤ v.no - v.wt * v.c 5 ∧ v.no - v.wt * v.c 5 ≤ 600000000000) ∧
    (-300000000000 ≤ v.wt * v.c 4 ∧ v.wt * v.c 4 ≤ 300000000000) ∧ (-300000000000 ≤ v.wt * v.c 5 ∧ v.wt * v.c 5 ≤ 300000000000) ∧
    (-10000 ≤ awE s * p ∧ awE s * p ≤ 10000) ∧ (-10000 ≤ awN s * p ∧ awN s * p ≤ 10000) ∧ (-1452000000000000000 ≤ awE s * p * v.pu ∧ awE s * p * v.pu ≤ 1452000000000000000) ∧ (-1452000000000000000 ≤ awN s * p * v.pu ∧ awN s * p * v.pu ≤ 1452000000000000000) ∧
    (-7400000000000000000 ≤ amE v p s ∧ amE v p s ≤ 7400000000000000000) ∧ (-7400000000000000000 ≤ amN v p s ∧ amN v p s ≤ 7400000000000000000) := by
  obtain ⟨b1, b2, b3, b4, b5, b6, b7, b8, b9, b10, b11, b12⟩ := h
  obtain ⟨a1, a2, a3, a4⟩ := aw_bd s
  obtain ⟨m1, m2⟩ := prod_bd (a := v.wt) (b := v.c 4) (A := 60000000) (B := 5000) (by omega) (by omega) (by omega) (by omega)
  obtain ⟨m3, m4⟩ := prod_bd (a := v.wt) (b := v.c 5) (A := 60000000) (B := 5000) (by omega) (by omega) (by omega) (by omega)
  obtain ⟨m5, m6⟩ := prod_bd (a := awE s) (b := p) (A := 1) (B := 10000) (by omega) (by omega) (by omega) (by omega)
  obtain ⟨m7, m8⟩ := prod_bd (a := awN s) (b := p) (A := 1) (B := 10000) (by omega) (by omega) (by omega) (by omega)
  simp only [Int.reduceMul, Int.reduceNeg] at m1 m2 m3 m4 m5 m6 m7 m8
  obtain ⟨m9, m10⟩ := prod_bd (a := awE s * p) (b := v.pu) (A := 10000) (B := 145200000000000) (by omega) (by omega) (by omega) (by omega)
  obtain ⟨m11, m12⟩ := prod_bd (a := awN s * p) (b := v.pu) (A := 10000) (B := 145200000000000) (by omega) (by omega) (by omega) (by omega)
  simp only [Int.reduceMul, Int.reduceNeg] at m9 m10 m11 m12
  unfold amE amN
  omega

set_option maxRecDepth 100000 in
set_option maxHeartbeats 1000000 in
theorem arm_any (v : BedV) (p : Int) (s : Nat) (w : World) (hT : Tab w) (h : InB v) (hs : s < 4) (h0 : 0 ≤ p) (h1 : p ≤ 10000) :
    Calls Tryd.prog 63 #[v.val, .int .i64 p, .int .i64 s] w fun e w' => e = .returned (.tuple #[.int .i64 (amE v p s), .int .i64 (amN v p s)]) ∧ Below w.heap.size w w' := by
  obtain ⟨⟨m1, m2⟩, ⟨m3, m4⟩, ⟨m5, m6⟩, ⟨m7, m8⟩, ⟨m9, m10⟩, ⟨m11, m12⟩, ⟨m13, m14⟩, ⟨m15, m16⟩, ⟨m17, m18⟩, m19, m20⟩ := am_bd s h h0 h1
  obtain ⟨b1, b2, b3, b4, b5, b6, b7, b8, b9, b10, b11, b12⟩ := h
  obtain ⟨t1, t2⟩ := hT s hs
  have ht := hT.lt
  obtain ⟨a1, a2, a3, a4⟩ := aw_bd s
  have hs4 : (s : Int) < 4 := by omega
  unfold amE amN at *
  simp only [BedV.val]
  generalize awE s = E at *
  generalize awN s = N at *
  clear hT
  go_enter Tryd.func63, Tryd.ntmps63
  go_wp2
  go_returns
  exact ⟨rfl, by (repeat' (first | (with_reducible exact Below.refl _ _) | (with_reducible assumption) | (with_reducible refine Below.alloc ?_ ?_ _) | (with_reducible refine Below.drew ?_) | (with_reducible refine below_drewN ?_ _) | (with_reducible refine Below.setCell ?_ ?_ _) | (with_reducible refine below_after ?_ ?_ _) | (with_reducible refine below_set ?_) | (with_reducible refine After.size_le _ ?_) | (with_reducible refine size_alloc_le ?_) | (with_reducible refine size_set_le ?_) | (with_reducible refine size_drewN_le ?_) | go_size))⟩
set_option maxRecDepth 100000 in
set_option maxHeartbeats 1000000 in
theorem parts_any (v : BedV) (w : World) (h : InB v) :
    Calls Tryd.prog 64 #[v.val] w fun e w' => e = .returned (.int .i64 (9810000 * v.wt)) ∧ Below w.heap.size w w' := by
  obtain ⟨b1, b2, b3, b4, b5, b6, b7, b8, b9, b10, b11, b12⟩ := h
  simp only [BedV.val]
  go_enter Tryd.func64, Tryd.ntmps64
  go_wp2
  go_ret
  exact ⟨rfl, by (repeat' (first | (with_reducible exact Below.refl _ _) | (with_reducible assumption) | (with_reducible refine Below.alloc ?_ ?_ _) | (with_reducible refine Below.drew ?_) | (with_reducible refine below_drewN ?_ _) | (with_reducible refine Below.setCell ?_ ?_ _) | (with_reducible refine below_after ?_ ?_ _) | (with_reducible refine below_set ?_) | (with_reducible refine After.size_le _ ?_) | (with_reducible refine size_alloc_le ?_) | (with_reducible refine size_set_le ?_) | (with_reducible refine size_drewN_le ?_) | go_size))⟩
def WindOk (p s : Int) : Prop := Btw p 0 10000 ∧ Btw s 0 3
instance (p s : Int) : Decidable (WindOk p s) := by unfold WindOk; infer_instance
theorem validWind_any (p s : Int) (w : World) :
    Calls Tryd.prog 83 #[.int .i64 p, .int .i64 s] w fun e w' => e = .returned (.bool (decide (WindOk p s))) ∧ Below w.heap.size w w' := by
  have H1 := Lib.hid (between_any p 0 10000)
  have H2 := Lib.hid (between_any s 0 3)
  by_cases hp : Btw p 0 10000
  · rw [decide_eq_true hp] at H1
    have e : decide (WindOk p s) = decide (Btw s 0 3) := decide_eq_decide.2 ⟨fun h => h.2, fun h => ⟨hp, h⟩⟩
    rw [e]
    generalize decide (Btw s 0 3) = t at *
    clear hp e
    go_enter Tryd.func83, Tryd.ntmps83
    go_wp2_with fail
    refine calls_after (H1.out _) ?_
    intro x1
    go_wp2_with fail
    refine calls_after2 (H2.out _) ?_
    intro x2
    go_wp2
    go_ret
    exact ⟨rfl, by (repeat' (first | (with_reducible exact Below.refl _ _) | (with_reducible assumption) | (with_reducible refine Below.alloc ?_ ?_ _) | (with_reducible refine Below.drew ?_) | (with_reducible refine below_drewN ?_ _) | (with_reducible refine Below.setCell ?_ ?_ _) | (with_reducible refine below_after ?_ ?_ _) | (with_reducible refine below_set ?_) | (with_reducible refine After.size_le _ ?_) | (with_reducible refine size_alloc_le ?_) | (with_reducible refine size_set_le ?_) | (with_reducible refine size_drewN_le ?_) | go_size))⟩
  · rw [decide_eq_false hp] at H1
    rw [decide_eq_false (fun h : WindOk p s => hp h.1)]
    clear hp
    go_enter Tryd.func83, Tryd.ntmps83
    go_wp2_with fail
    refine calls_after (H1.out _) ?_
    intro x1
    go_wp2
    go_ret
    exact ⟨rfl, by (repeat' (first | (with_reducible exact Below.refl _ _) | (with_reducible assumption) | (with_reducible refine Below.alloc ?_ ?_ _) | (with_reducible refine Below.drew ?_) | (with_reducible refine below_drewN ?_ _) | (with_reducible refine Below.setCell ?_ ?_ _) | (with_reducible refine below_after ?_ ?_ _) | (with_reducible refine below_set ?_) | (with_reducible refine After.size_le _ ?_) | (with_reducible refine size_alloc_le ?_) | (with_reducible refine size_set_le ?_) | (with_reducible refine size_drewN_le ?_) | go_size))⟩
end Go.Proofs.YtplhbklfaokjbaaDoor
