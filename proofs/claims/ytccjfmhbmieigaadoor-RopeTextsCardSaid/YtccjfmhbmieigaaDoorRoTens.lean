/- The iterator of tensions, and the gain that is added up over it. -/
import Derived.RangeFuncNested
import Derived.RangeFuncBound
import Derived.RangeFuncCalls
import Derived.RangeFuncLeaves
import Derived.RangeFuncBox
import Derived.Shelf.Abstract
import Derived.Shelf.RegionOpen
import Derived.WalkKit
import Derived.OwnWalkIn
import Derived.TacticsInMore
import Derived.LoopNIn
import Derived.LoopIn
import Derived.ControlIn
import Derived.Test.YtccjfmhbmieigaaDoorRoRN
namespace Go.Proofs.YtccjfmhbmieigaaDoor.Ro
open Go.Proofs.YtccjfmhbmieigaaDoor
open Go.RowKit Go.Shelf
attribute [local go_sem] Oper.semAt_some

theorem keepsFrom_below {B : Nat} {W W1 : World} (h : Below W.heap.size W W1) : KeepsFrom B W W1 := ⟨h.size, fun k _ _ hk _ => (h.block k (Array.getElem?_eq_some_iff.1 hk).1).trans hk⟩
/-- A part's number. -/
abbrev Six := { i : Nat // i < 6 }
def tnV (k : Int) (x : Six) : Value := .int .i64 (tns k x.1)

/-- A block of cells lies as it lay. -/
def KBlk (b : Nat) (A B : World) : Prop := ∀ o : Obj, A.heap[b]? = some o → o.isCells = true → B.heap[b]? = some o
theorem kblk_t {b : Nat} {A B C : World} (h : KBlk b A B) (k : KBlk b B C) : KBlk b A C := fun o h1 h2 => k o (h o h1 h2) h2
theorem kblk_b {b : Nat} {w : World} (W : World) (l : Nat) (o o' : Obj) (_ : w.heap.size ≤ l) (h : W.heap[l]? = some o) (hc : o.isCells = false) (_ : o.isWalk = false) : KBlk b W (W.putObj l o') := fun p h1 h2 => by
  by_cases e : l = b
  · subst e; rw [h] at h1; cases h1; rw [hc] at h2; cases h2
  · exact (World.putObj_heap_other (fun e' => e e'.symm)).trans h1
theorem kblk_below {b n : Nat} {A B : World} (h : Below n A B) (hb : b < n) : KBlk b A B := fun _ h1 _ => (h.block b hb).trans h1
theorem kblk_alloc {b : Nat} (A : World) (x : Obj) : KBlk b A (A.alloc x) := fun _ h1 _ => (Below.heap_alloc _ _ _ (Array.getElem?_eq_some_iff.1 h1).1).trans h1
theorem kblk_set {b : Nat} (A : World) {p : Addr} (v : Value) (hp : p.block ≠ b) : KBlk b A (A.setCell p v) := fun _ h1 _ => (Below.heap_setCell A p v b (fun e => hp e.symm)).trans h1
theorem range_pre {a p : Nat} (h : a ≤ p) : List.range a <+: List.range p := by
  induction p with
  | zero => obtain rfl : a = 0 := by omega
            exact List.prefix_rfl
  | succ p ih =>
    rcases Nat.lt_or_ge p a with h1 | h1
    · obtain rfl : a = p + 1 := by omega
      exact List.prefix_rfl
    · rw [List.range_succ]
      exact (ih h1).trans (List.prefix_append _ _)

set_option maxRecDepth 100000 in
set_option maxHeartbeats 1000000 in
theorem tensions1_in (F : Fence) (m : Nat) (hF : F.fn 116) (hro : F.round = none) (hm : 1 ≤ m) (l Bn p : Nat) (k : Int) (hp : p ≤ 6) (hk : 1 ≤ k) (hk' : k ≤ 100) (J Jx : List Six → World → Prop)
    (hY : ∀ pre x W, J pre W → pre.length < p → YieldAt F (m - 1) Tryd.prog l #[tnV k x] W fun e W' =>
      (e = .returned (.bool true) ∧ J (pre ++ [x]) W' ∧ KBlk Bn W W') ∨ (e = .returned (.bool false) ∧ Jx (pre ++ [x]) W'))
    (W : World) (hc : W.heap[Bn]? = some (.cells #[.int .i64 p, .int .i64 k] 68 (0, 0))) (h0 : J [] W) :
    CallsIn F m Tryd.prog 116 #[.func (.yield l) #[] #[], .pointer (some ⟨Bn, 0, none⟩)] W fun e W' => (∃ v, e = .returned v) ∧
      ((∃ ys : List Six, ys.map (·.1) = List.range p ∧ J ys W') ∨ (∃ pre : List Six, pre.map (·.1) <+: List.range p ∧ Jx pre W')) := by
  have hc0 : W.cell? ⟨Bn, 0, none⟩ = some (.int .i64 p) := cell_of_row W Bn 0 _ _ _ hc
  refine callsIn_of_wp Tryd.func116 rfl hF ?_ hro
  simp only [Tryd.ntmps116, List.size_toArray, List.length_cons, List.length_nil, Nat.reduceAdd, Nat.reduceSub, Array.replicate_succ, Array.replicate_zero, List.push_toArray, List.append_toArray, List.nil_append, List.cons_append]
  have HC := Lib.hid hc
  clear hc
  gi_wp2
  gi_loopw [3, 6] (fun t i wr => ∃ a : Nat, a ≤ p ∧ i = .int .i64 a ∧ t = .int .i64 (tns k a) ∧ (∃ q : List Six, q.map (·.1) = List.range a ∧ J q wr) ∧ wr.heap[Bn]? = some (.cells #[.int .i64 p, .int .i64 k] 68 (0, 0))) (fun _ i _ => p - (intOf i).toNat)
  case atStart => exact ⟨0, Nat.zero_le _, rfl, rfl, ⟨[], rfl, h0⟩, HC.out⟩
  case round =>
    obtain ⟨a, ha, rfl, rfl, ⟨q, hq, hJ⟩, hB⟩ := hrel
    obtain ⟨t1, t2⟩ := tns_bd hk hk' a
    obtain ⟨t3, t4⟩ := tns_mul hk hk' a
    have HT : Hid (tns k (a + 1) = tns k a * k / 100) := rfl
    have HQ := Lib.hid hq
    have HB := Lib.hid hB
    clear hq hB
    by_cases hlt : a < p
    · have hlen : q.length < p := by have := congrArg List.length HQ.out; simp at this; omega
      obtain ⟨fn, tmps, assign, body, hy, hR⟩ := hY q ⟨a, by omega⟩ wr hJ hlen
      simp only [tnV] at hy
      gi_wp2
      refine hR.mono ?_
      rintro e W3 (⟨rfl, hJ4, hk3⟩ | ⟨rfl, hJx3⟩)
      · have HK := Lib.hid (hk3 _ HB.out rfl)
        have hc2 : W3.cell? ⟨Bn, 1, none⟩ = some (.int .i64 k) := cell_of_row W3 Bn 1 _ _ _ HK.out
        have HJ := Lib.hid hJ4
        clear hJ4 hk3
        gi_wp2
        go_roundw
        case rel => exact ⟨a + 1, by omega, by go_num, by rw [HT.out], ⟨q ++ [⟨a, by omega⟩], by rw [List.map_append, HQ.out, List.range_succ]; rfl, HJ.out⟩, HK.out⟩
        case measure => simp [intOf]; omega
      · gi_wp2
        refine bodyPost_ret (results_none rfl _ _ _) rfl ?_
        refine ⟨⟨_, rfl⟩, .inr ⟨_, ?_, hJx3⟩⟩
        rw [List.map_append, HQ.out]
        show List.range a ++ [a] <+: _
        rw [← List.range_succ]
        exact range_pre hlt
    · obtain rfl : a = p := by omega
      gi_wp2
      go_end0
      exact ⟨⟨_, rfl⟩, .inl ⟨_, HQ.out, hJ⟩⟩

theorem tensions_stops (F : Fence) (m : Nat) (hF : F.fn 116) (hro : F.round = none) (hm : 1 ≤ m) (Bn p : Nat) (k : Int) (hp : p ≤ 6) (hk : 1 ≤ k) (hk' : k ≤ 100) (w : World) 
    (hc : w.heap[Bn]? = some (.cells #[.int .i64 p, .int .i64 k] 68 (0, 0))) :
    SeqStopsK F m Tryd.prog 116 #[.pointer (some ⟨Bn, 0, none⟩)] (fun x : Six => #[tnV k x]) (KBlk Bn) (fun ys => ys.map (·.1) = List.range p) (fun pre => pre.map (·.1) <+: List.range p) p w := fun l J Jx W hW _ _ hY h0 =>
  tensions1_in F m hF hro hm l Bn p k hp hk hk' J Jx hY W ((hW.block Bn (Array.getElem?_eq_some_iff.1 hc).1).trans hc) h0

theorem tensions_any (p k : Int) (w : World) :
    Calls Tryd.prog 99 #[.agg #[.int .i64 p, .int .i64 k]] w fun e w' => e = .returned (.func (.func 116) #[] #[.pointer (some ⟨w.heap.size, 0, none⟩)]) ∧ w.alloc (.cells #[.int .i64 p, .int .i64 k] 68) = w' := by
  go_enter Tryd.func99, Tryd.ntmps99
  go_wp2
  go_ret
  exact ⟨rfl, rfl⟩

/-- The tensions that have come, added up. -/
def sumT (k : Int) (q : List Six) : Int := (q.map fun x => tns k x.1).sum
theorem sumT_snoc (k : Int) (q : List Six) (x : Six) : sumT k (q ++ [x]) = sumT k q + tns k x.1 := by simp [sumT]
theorem sumT_bd {k : Int} (hk : 1 ≤ k) (hk' : k ≤ 100) : ∀ q : List Six, 0 ≤ sumT k q ∧ sumT k q ≤ q.length * 10000000000
  | [] => by simp [sumT]
  | x :: q => by
    obtain ⟨h1, h2⟩ := sumT_bd hk hk' q
    obtain ⟨h3, h4⟩ := tns_bd hk hk' x.1
    simp only [sumT, List.map_cons, List.sum_cons, List.length_cons] at *
    omega
theorem sum_range (k : Int) : ∀ p, ((List.range p).map (tns k)).sum = gsum k p
  | 0 => rfl
  | p + 1 => by rw [List.range_succ, List.map_append, List.sum_append, sum_range k p]; simp [gsum]
theorem sumT_all {k : Int} {q : List Six} {p : Nat} (h : q.map (·.1) = List.range p) : sumT k q = gsum k p := by
  rw [← sum_range, ← h, List.map_map]; rfl

set_option maxRecDepth 100000 in
set_option maxHeartbeats 1000000 in
theorem gain_any (p : Nat) (k : Int) (w : World) (hp : p ≤ 6) (hk : 1 ≤ k) (hk' : k ≤ 100) :
    Calls Tryd.prog 81 #[.agg #[.int .i64 p, .int .i64 k]] w fun e w' => e = .returned (.int .i64 (gsum k p)) ∧ Below w.heap.size w w' := by
  refine (callsIn_wide (n := 3)).1 ?_
  refine callsIn_of_wp_marks Tryd.func81 rfl trivial ?_ rfl
  simp only [Tryd.ntmps81, List.size_toArray, List.length_cons, List.length_nil, Nat.reduceAdd, Nat.reduceSub, Array.replicate_succ, Array.replicate_zero, List.push_toArray, List.append_toArray, List.nil_append, List.cons_append]
  refine wpIn_wide.2 ?_
  go_wp2_with (go_at_call 99; refine (tensions_any _ _ _).mono ?_; rintro e w1 ⟨rfl, rfl⟩)
  have bS : Boxed ((w.alloc (.cells #[.int .i64 p, .int .i64 k] 68)).alloc (.cells #[.int .i64 0] 3)) (w.alloc (.cells #[.int .i64 p, .int .i64 k] 68)).heap.size 3 (.int .i64 0) := Boxed.new _ _ _
  rw [World.size_alloc] at bS
  have bS := bS.alloc (.cells #[.int .i64 p, .int .i64 k] 68)
  have hT : (((w.alloc (.cells #[.int .i64 p, .int .i64 k] 68)).alloc (.cells #[.int .i64 0] 3)).alloc (.cells #[.int .i64 p, .int .i64 k] 68)).heap[w.heap.size + 1 + 1]? = some (.cells #[.int .i64 p, .int .i64 k] 68 (0, 0)) := by
    have := heap_alloc_new ((w.alloc (.cells #[.int .i64 p, .int .i64 k] 68)).alloc (.cells #[.int .i64 0] 3)) (.cells #[.int .i64 p, .int .i64 k] 68)
    rw [World.size_alloc, World.size_alloc] at this
    exact this
  have hB0 : Below w.heap.size w (((w.alloc (.cells #[.int .i64 p, .int .i64 k] 68)).alloc (.cells #[.int .i64 0] 3)).alloc (.cells #[.int .i64 p, .int .i64 k] 68)) := by (repeat' (first | (with_reducible exact Below.refl _ _) | (with_reducible assumption) | (with_reducible refine Below.alloc ?_ ?_ _) | (with_reducible refine Below.drew ?_) | (with_reducible refine below_drewN ?_ _) | (with_reducible refine Below.setCell ?_ ?_ _) | (with_reducible refine below_after ?_ ?_ _) | (with_reducible refine below_set ?_) | (with_reducible refine After.size_le _ ?_) | (with_reducible refine size_alloc_le ?_) | (with_reducible refine size_set_le ?_) | (with_reducible refine size_drewN_le ?_) | go_size))
  have hsz : (((w.alloc (.cells #[.int .i64 p, .int .i64 k] 68)).alloc (.cells #[.int .i64 0] 3)).alloc (.cells #[.int .i64 p, .int .i64 k] 68)).heap.size = w.heap.size + 1 + 1 + 1 := by simp
  obtain ⟨W0, hW0⟩ : ∃ W0, (((w.alloc (.cells #[.int .i64 p, .int .i64 k] 68)).alloc (.cells #[.int .i64 0] 3)).alloc (.cells #[.int .i64 p, .int .i64 k] 68)) = W0 := ⟨_, rfl⟩
  rw [hW0] at bS hT hB0 hsz ⊢
  clear hW0
  refine wpIn_wide (n := 3).1 ?_
  refine wpIn_rangeFunc_ownH rfl (by omega) (gf := 116) (lb := #[.pointer (some ⟨w.heap.size + 1 + 1, 0, none⟩)]) rfl trivial (enters_of Tryd.func116 (by kernel_rfl) rfl)
    (tensions_stops Fence.wide 2 trivial rfl (by omega) (w.heap.size + 1 + 1) p k hp hk hk' W0 hT) kblk_t kblk_b (Below.refl _ _) (fun _ => rfl)
    (fun pre W => Boxed W (w.heap.size + 1) 3 (.int .i64 (sumT k pre)) ∧ Below w.heap.size w W)
    (fun _ _ _ => False)
    (OwnFrom.and (Own.from (boxed_own (w.heap.size + 1) 3 (fun pre => .int .i64 (sumT k pre))) _) (ownFrom_below (Nat.le_refl _) (by omega)))
    (fun _ _ _ _ _ hs _ _ => hs)
    ⟨bS, hB0⟩
    (fun x a' W => a' = { tmps := #[.agg #[.int .i64 p, .int .i64 k], .pointer (some ⟨w.heap.size, 0, none⟩), .int .i64 0, .pointer (some ⟨w.heap.size + 1, 0, none⟩), tnV k x, .agg #[.int .i64 p, .int .i64 k], .func (.func 116) #[] #[.pointer (some ⟨w.heap.size + 1 + 1, 0, none⟩)], tnV k x, undef, undef, undef, undef], defers := [] })
    (fun x a' _ X Y row hs hg hr => hs)
    ?assign ?body ?done ?stop
  case assign =>
    rintro l pre x W K ⟨hv, hB⟩ hK
    unfold tnV at *
    gi_wp2
    exact hK _ _ (KeepsFrom.refl _ _) (fun _ h _ => h) ⟨hv, hB⟩ rfl
  case body =>
    rintro l pre x a' W hl ⟨r, hr⟩ ⟨hv, hB⟩ rfl hlt
    have hcv := hv.cell
    have hfv := hv.frozen
    obtain ⟨s1, s2⟩ := sumT_bd hk hk' pre
    obtain ⟨t1, t2⟩ := tns_bd hk hk' x.1
    have HS := Lib.hid (sumT_snoc k pre x)
    unfold tnV
    gi_wp2
    exact ⟨(KeepsOthers.setCell _ _ _).from _, kblk_set _ _ (by simp), by rw [HS.out]; exact hv.set _, hB.setCell (by simp) _⟩
  case done =>
    rintro D ys W hD hys ⟨hv, hB⟩ hK
    have hcv := hv.cell
    have HS := Lib.hid (sumT_all (k := k) hys)
    gi_wp2
    go_wp2
    refine ⟨by simp, .inl ⟨_, _, rfl, run_takeDeferred hK, ?_⟩⟩
    exact ⟨_, results_tmp rfl _ _ _, by rw [HS.out]; rfl, hB.trans (belowK_b (w := w) (Nat.le_refl _) W D _ _ (by omega) hK rfl rfl)⟩
  case stop =>
    rintro D c pre W _ _ h _
    exact h.elim
end Go.Proofs.YtccjfmhbmieigaaDoor.Ro
