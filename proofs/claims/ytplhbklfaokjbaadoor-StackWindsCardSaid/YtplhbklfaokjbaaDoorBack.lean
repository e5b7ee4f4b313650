/- slices.Backward over a stack's courses: its contract as an iterator. -/
import Derived.Test.YtplhbklfaokjbaaDoorFr
import Derived.Test.YtplhbklfaokjbaaDoorOnto
import Derived.Shelf.Abstract
import Derived.Shelf.RegionOpen
import Derived.WalkKit
import Derived.OwnWalkIn
import Derived.TacticsInMore
import Derived.LoopNIn
import Derived.LoopIn
namespace Go.Proofs.YtplhbklfaokjbaaDoor
open Go.RowKit Go.Shelf
attribute [local go_sem] Oper.semAt_some

/-- An index below n. -/
abbrev Ix (n : Nat) := { i : Nat // i < n }
/-- The indexes n - 1 .. k, downwards. -/
def dn (n k : Nat) : List Nat := (List.range (n - k)).map fun j => n - 1 - j
theorem dn_top (n : Nat) : dn n n = [] := by simp [dn]
theorem dn_next {n k : Nat} (h : k < n) : dn n (k + 1) ++ [k] = dn n k := by
  unfold dn
  rw [show n - k = (n - (k + 1)) + 1 by omega, List.range_succ, List.map_append]
  simp; omega
theorem dn_len (n k : Nat) : (dn n k).length = n - k := by simp [dn]
theorem dn_pre {n k : Nat} (h : k ≤ n) : dn n k <+: dn n 0 := by
  induction k with
  | zero => exact List.prefix_rfl
  | succ k ih =>
    have := ih (by omega)
    rw [← dn_next (by omega)] at this
    exact (List.prefix_append _ _).trans this
def crV (g : Nat → Int) : Value := .agg #[.int .i64 (g 0), .int .i64 (g 1), .int .i64 (g 2), .int .i64 (g 3), .int .i64 (g 4), .int .i64 (g 5)]
/-- What comes next. -/
def nxt (n : Nat) (pre : List (Ix n)) (x : Ix n) : Prop := pre.map (·.1) = dn n (x.1 + 1)

theorem CrCells.fr {M : Nat → Prop} {w W : World} {b off n : Nat} {f : Nat → Nat → Int} (h : CrCells w b off n f) (hW : Fr M w W) (hb : ¬ M b) : CrCells W b off n f := fun i hi => by
  obtain ⟨h0, h1, h2, h3, h4, h5⟩ := h i hi
  exact ⟨hW.cell hb h0, hW.cell hb h1, hW.cell hb h2, hW.cell hb h3, hW.cell hb h4, hW.cell hb h5⟩

set_option maxRecDepth 100000 in
set_option maxHeartbeats 2000000 in
theorem backward1_fr (F : Fence) (m : Nat) (hF : F.fn 95) (hro : F.round = none) (hm : 1 ≤ m) (Bx b off cap n : Nat) (f : Nat → Nat → Int) (M : Nat → Prop) (hMx : ¬ M Bx) (hMb : ¬ M b) (w : World) (hn : n ≤ 1000)
    (hbw : b < w.heap.size) (hx : w.cell? ⟨Bx, 0, none⟩ = some (.slice (some ⟨b, off, none⟩) n cap)) (hC : CrCells w b off n f) :
    SeqFr F m Tryd.prog 95 #[.pointer (some ⟨Bx, 0, none⟩)] (fun x : Ix n => #[.int .i64 (x.1 : Nat), crV (f x.1)]) M (nxt n) (fun ys => ys.map (·.1) = dn n 0) (fun pre => pre.map (·.1) <+: dn n 0) 0 w := by
  intro l J Jx W hW hl0 hl hJ hJx hY h0
  have hbx : Bx < w.heap.size := World.block_lt_of_cell? w _ hx
  have hx := (hW.cell (p := ⟨Bx, 0, none⟩) hbx).trans hx
  have hC := hC.on hbw hW
  have hS := hW.size
  refine callsIn_of_wp Tryd.func95 rfl hF ?_ hro
  simp only [Tryd.ntmps95, List.size_toArray, List.length_cons, List.length_nil, Nat.reduceAdd, Nat.reduceSub, Array.replicate_succ, Array.replicate_zero, List.push_toArray, List.append_toArray, List.nil_append, List.cons_append]
  have HY := Lib.hid hY
  have HC := Lib.hid hC
  have hnI : (n : Int) ≤ 1000 := by omega
  clear hY hC hJ hJx hW
  gi_wp2
  gi_loopw [3] (fun i wr => ∃ k : Nat, k ≤ n ∧ i = .int .i64 ((k : Int) - 1) ∧ (∃ q : List (Ix n), q.map (·.1) = dn n k ∧ J q wr) ∧ W.heap.size ≤ wr.heap.size ∧ wr.cell? ⟨Bx, 0, none⟩ = some (.slice (some ⟨b, off, none⟩) n cap) ∧ Hid (CrCells wr b off n f)) (fun i _ => (intOf i + 1).toNat)
  case atStart => exact ⟨n, Nat.le_refl _, by first | rfl | go_num, ⟨[], by rw [dn_top]; rfl, h0⟩, Nat.le_refl _, hx, HC⟩
  case round =>
    obtain ⟨k, hk, rfl, ⟨q, hq, hJ⟩, hsz, hx, HC⟩ := hrel
    have HQ := Lib.hid hq
    clear hq
    rcases k with _ | k
    · gi_wp2
      go_end0
      exact ⟨⟨_, rfl⟩, .inl ⟨_, HQ.out, hJ⟩⟩
    · rw [show (((k + 1 : Nat)) : Int) - 1 = (k : Int) by omega]
      have hkn : k < n := hk
      have hki : (k : Int) < (n : Int) := by omega
      obtain ⟨c0, c1, c2, c3, c4, c5⟩ := HC.out k hkn
      obtain ⟨fn, tmps, assign, body, hy, hR⟩ := HY.out q ⟨k, hkn⟩ wr HQ.out hJ (by omega)
      have HR := Lib.hid hR
      simp only [crV] at hy
      clear hR HY
      gi_wp2
      refine HR.out.mono ?_
      rintro e W3 ⟨hf, (⟨rfl, hJ4⟩ | ⟨rfl, hJx3⟩)⟩
      · have nb : ¬ (b = l ∨ RndM M (W.heap.size + 0) wr b) := fun h => by
          rcases h with h | h | h
          · omega
          · exact hMb h
          · omega
        have nx : ¬ (Bx = l ∨ RndM M (W.heap.size + 0) wr Bx) := fun h => by
          rcases h with h | h | h
          · omega
          · exact hMx h
          · omega
        have hx3 := hf.cell (p := ⟨Bx, 0, none⟩) nx hx
        have HC3 := Lib.hid (HC.out.fr hf nb)
        have hs3 := hf.size
        have HJ := Lib.hid hJ4
        clear hf hJ4 HC c0 c1 c2 c3 c4 c5
        gi_wp2
        go_roundw
        case rel => exact ⟨k, by omega, by first | rfl | go_num, ⟨_, by rw [List.map_append, HQ.out]; exact dn_next hkn, HJ.out⟩, by omega, hx3, HC3⟩
        case measure => simp [intOf]
      · clear hf
        gi_wp2
        refine bodyPost_ret (results_none rfl _ _ _) rfl ?_
        refine ⟨⟨_, rfl⟩, .inr ⟨_, ?_, hJx3⟩⟩
        rw [List.map_append, HQ.out]
        exact (dn_next hkn).symm ▸ dn_pre (by omega)
end Go.Proofs.YtplhbklfaokjbaaDoor
