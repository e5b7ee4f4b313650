/- slices.Reverse of an own list of integers: the shelf's contract, laid. Open in the reference. -/
import Derived.Test.YtplhbklfaokjbaaDoorSints
import Derived.Shelf.Slices.Reverse
import Derived.Sort.OwnSortedInts
import Derived.Lib.SmallJoins
namespace Go.Proofs.YtplhbklfaokjbaaDoor
open Go.RowKit
attribute [local go_sem] After.cell After.frozen After.lt After.le After.ne After.ne' After.set_eq After.size_set After.lt_add

/-- The open beds below m, from below. -/
def opL (f : Nat → Nat → Int) (n : Nat) (p : Int) (s : Nat) (m : Nat) : List Nat := (List.range m).filter (fun k => !clB (bI f n k) p s)
theorem opL_succ (f : Nat → Nat → Int) (n : Nat) (p : Int) (s k : Nat) : opL f n p s (k + 1) = opL f n p s k ++ if clB (bI f n k) p s then [] else [k] := by
  unfold opL
  rw [List.range_succ, List.filter_append]
  cases h : clB (bI f n k) p s <;> simp [h]
theorem opL_le (f : Nat → Nat → Int) (n : Nat) (p : Int) (s m : Nat) : (opL f n p s m).length ≤ m := by
  unfold opL
  have := List.length_filter_le (fun k => !clB (bI f n k) p s) (List.range m)
  simpa using this
theorem rOpen_err (v : Value) (p s e : Int) (w : World) (hE : ESay w v 0 p s e) (he : (e == 0) = false) :
    Calls Tryd.prog 32 #[v, .int .i64 p, .int .i64 s] w fun r w' => r = .returned (.tuple #[.slice none 0 0, .int .i64 e]) ∧ Below w.heap.size w w' := by
  have HE : Hid (∀ W, Below w.heap.size w W → _) := hE
  clear hE
  go_enter Tryd.func32, Tryd.ntmps32
  (go_wp2_with fail); refine calls_after (HE.out _ (by (repeat' (first | (with_reducible exact Below.refl _ _) | (with_reducible assumption) | (with_reducible refine Below.alloc ?_ ?_ _) | (with_reducible refine Below.drew ?_) | (with_reducible refine below_drewN ?_ _) | (with_reducible refine Below.setCell ?_ ?_ _) | (with_reducible refine below_after ?_ ?_ _) | (with_reducible refine below_set ?_) | (with_reducible refine After.size_le _ ?_) | (with_reducible refine size_alloc_le ?_) | (with_reducible refine size_set_le ?_) | (with_reducible refine size_drewN_le ?_) | go_size)))) ?_; intro x1
  go_wp2
  go_returns
  exact ⟨rfl, by (repeat' (first | (with_reducible exact Below.refl _ _) | (with_reducible assumption) | (with_reducible refine Below.alloc ?_ ?_ _) | (with_reducible refine Below.drew ?_) | (with_reducible refine below_drewN ?_ _) | (with_reducible refine Below.setCell ?_ ?_ _) | (with_reducible refine below_after ?_ ?_ _) | (with_reducible refine below_set ?_) | (with_reducible refine After.size_le _ ?_) | (with_reducible refine size_alloc_le ?_) | (with_reducible refine size_set_le ?_) | (with_reducible refine size_drewN_le ?_) | go_size))⟩
set_option maxRecDepth 100000 in
set_option maxHeartbeats 2000000 in
theorem rOpen_ok (a : Option Addr) (n cap : Nat) (f : Nat → Nat → Int) (p : Int) (s : Nat) (w : World) (hn : n ≤ 60) (hE : ESay w (.slice a n cap) 0 p s 0)
    (hH : ∀ (k : Nat) W, k < n → Below w.heap.size w W → Calls Tryd.prog 67 #[.slice a n cap, .int .i64 (k : Nat), .int .i64 p, .int .i64 s] W fun e w' => e = .returned (.bool (clB (bI f n k) p s)) ∧ Below W.heap.size W w') :
    Calls Tryd.prog 32 #[.slice a n cap, .int .i64 p, .int .i64 s] w fun e w' => ∃ v, e = .returned (.tuple #[v, .int .i64 0]) ∧ w'.ownsRow w.heap.size 3 1 v (opL f n p s n).length (ixC (opL f n p s n)) ∧ Below w.heap.size w w' := by
  have HE : Hid (∀ W, Below w.heap.size w W → _) := hE
  have HH := Lib.hid hH
  obtain ⟨i0, hi, hz0, hz1, hz2⟩ := info_parts ixInfo
  clear hH hE
  go_enter Tryd.func32, Tryd.ntmps32
  (go_wp2_with fail); refine calls_after (HE.out _ (by (repeat' (first | (with_reducible exact Below.refl _ _) | (with_reducible assumption) | (with_reducible refine Below.alloc ?_ ?_ _) | (with_reducible refine Below.drew ?_) | (with_reducible refine below_drewN ?_ _) | (with_reducible refine Below.setCell ?_ ?_ _) | (with_reducible refine below_after ?_ ?_ _) | (with_reducible refine below_set ?_) | (with_reducible refine After.size_le _ ?_) | (with_reducible refine size_alloc_le ?_) | (with_reducible refine size_set_le ?_) | (with_reducible refine size_drewN_le ?_) | go_size)))) ?_; intro x1
  have hB1 : Below w.heap.size w x1.w := by (repeat' (first | (with_reducible exact Below.refl _ _) | (with_reducible assumption) | (with_reducible refine Below.alloc ?_ ?_ _) | (with_reducible refine Below.drew ?_) | (with_reducible refine below_drewN ?_ _) | (with_reducible refine Below.setCell ?_ ?_ _) | (with_reducible refine below_after ?_ ?_ _) | (with_reducible refine below_set ?_) | (with_reducible refine After.size_le _ ?_) | (with_reducible refine size_alloc_le ?_) | (with_reducible refine size_set_le ?_) | (with_reducible refine size_drewN_le ?_) | go_size))
  go_wp2_with fail
  go_loopw [9, 10] (fun v i wr => ∃ k : Nat, k ≤ n ∧ i = .int .i64 k ∧ ∃ x : After x1.w, wr = x.w ∧ x.w.ownsRow x1.w.heap.size 3 1 v (opL f n p s k).length (ixC (opL f n p s k))) (fun _ i _ => n - (intOf i).toNat)
  case atStart => exact ⟨0, by omega, rfl, ⟨x1.w, Below.refl _ _⟩, rfl, World.ownsRow_nil _ _ _ _⟩
  case round =>
    obtain ⟨k, hk, rfl, x, rfl, hown⟩ := hrel
    have hsx := x.out.size
    have HO := Lib.hid hown
    clear hown
    by_cases hlt : k < n
    · have HK := Lib.hid (HH.out k x.w hlt (hB1.trans (x.out.mono hB1.size)))
      have hS := Lib.hid (opL_succ f n p s k)
      have hle := opL_le f n p s k
      generalize clB (bI f n k) p s = q at *
      cases q
      · go_wp2_with fail
        refine HK.out.mono ?_
        rintro e w2 ⟨rfl, hb2⟩
        have hown := owns_on HO.out hb2
        obtain ⟨y, rfl⟩ := after_ofB (x.out.trans (hb2.mono x.out.size))
        have hsz := y.out.size
        clear hb2
        go_wp2_with (at_builtin; refine wpList_append_own _ rfl _ _ 41 rfl x1.w.heap.size 3 i0 (.int .i64 0) 1 8 Tryd.underlying41 hi hz0 hz1 hz2 rfl (by decide) _ _ _ rfl (hown.alloc _) ⟨y.w.heap.size, 0, none⟩ 1 1 [.int .i64 k] rfl rfl (World.news_of_block (cs := #[.int .i64 k]) (t := 3) (fr := (0, 0)) (heap_alloc_new y.w _)) (by simp [Value.oneCell']) (by unfold maxLen; omega) (by omega) (by simp; omega) ?_; intro v' w1 hown' hgrow _)
        go_roundw
        case rel => exact ⟨k + 1, by omega, by go_num, ⟨w1, (y.out.alloc y.out.size _).grown hgrow (by simp; omega) (fun j e => (hown.lt j e).1)⟩, rfl, by rw [hS.out]; simpa [ixC] using hown'⟩
        case measure => simp [intOf]; omega
      · go_wp2_with fail
        refine HK.out.mono ?_
        rintro e w2 ⟨rfl, hb2⟩
        have hown := owns_on HO.out hb2
        obtain ⟨y, rfl⟩ := after_ofB (x.out.trans (hb2.mono x.out.size))
        clear hb2
        go_wp2
        go_roundw
        case rel => exact ⟨k + 1, by omega, by go_num, y, rfl, by rw [hS.out]; simpa using hown⟩
        case measure => simp [intOf]; omega
    · obtain rfl : n = k := by omega
      have hB2 := Lib.hid (hB1.trans (x.out.mono hB1.size))
      have hB1 := Lib.hid hB1.size
      go_wp2
      go_returns
      exact ⟨_, rfl, HO.out.mono hB1.out, hB2.out⟩
end Go.Proofs.YtplhbklfaokjbaaDoor
namespace Go.Proofs.YtplhbklfaokjbaaDoor
open Go.Shelf Go.RowKit Go.Sort
def lrev_ren : Go.Shelf.Ren := ⟨fun | 112 => 72 | n => n, fun | 0 => 0 | 3 => 3 | 4 => 4 | 28 => 41 | n => n, fun n => n⟩
theorem lrev : Go.Proofs.Lays.n112 Tryd.prog lrev_ren := {
  mixed := by kernel_rfl
  f112 := Tryd.func72.trans (congrArg some (by kernel_rfl))
  t0 := Tryd.underlying0
  a0 := Tryd.isAgg0
  z0 := Tryd.sizeOf0
  v0 := Tryd.zeroValue0
  t3 := Tryd.underlying3
  a3 := Tryd.isAgg3
  z3 := Tryd.sizeOf3
  v3 := Tryd.zeroValue3
  t4 := Tryd.underlying4
  a4 := Tryd.isAgg4
  z4 := Tryd.sizeOf4
  v4 := Tryd.zeroValue4
  t28 := Tryd.underlying41
  a28 := Tryd.isAgg41
  z28 := Tryd.sizeOf41
  v28 := Tryd.zeroValue41 }

/-- A list of the call's own, read. -/
def IRow (W : World) (B : Nat) (v : Value) (L : List Nat) : Prop :=
  ∃ a cap, v = .slice a L.length cap ∧ (0 < L.length → ∃ g, a = some ⟨g, 0, none⟩ ∧ B ≤ g ∧ g < W.heap.size ∧ ∀ i, i < L.length → W.cell? ⟨g, i, none⟩ = some (.int .i64 (L.getD i 0 : Nat)))
theorem irow_of {W : World} {B : Nat} {v : Value} {L : List Nat} (h : W.ownsRow B 3 1 v L.length (ixC L)) : IRow W B v L := by
  by_cases h0 : L.length = 0
  · have h' := h
    rw [h0] at h'
    rcases Go.Joins.ownsRow_forms h' with ⟨rfl, _⟩ | ⟨g, c, rfl⟩
    · exact ⟨_, _, by rw [h0], fun h => by omega⟩
    · exact ⟨_, _, by rw [h0], fun h => by omega⟩
  · obtain ⟨g, c, rfl⟩ := Go.Joins.ownsRow_form h (by omega)
    exact ⟨_, c, rfl, fun _ => ⟨g, rfl, (h.lt g rfl).1, (h.lt g rfl).2, fun i hi => by
      rw [h.cellAt _ (by omega)]
      simp [ixC, hi]⟩⟩
theorem IRow.on {W V : World} {B : Nat} {v : Value} {L : List Nat} (h : IRow W B v L) (hV : Below W.heap.size W V) : IRow V B v L := by
  obtain ⟨a, cap, rfl, h⟩ := h
  refine ⟨a, cap, rfl, fun h0 => ?_⟩
  obtain ⟨g, rfl, h1, h2, h3⟩ := h h0
  exact ⟨g, rfl, h1, Nat.lt_of_lt_of_le h2 hV.size, fun i hi => (hV.cell (p := ⟨g, i, none⟩) h2).trans (h3 i hi)⟩
theorem sameInts_irow {W : World} {B B' : Nat} {v v' : Value} {L : List Nat} (h : IRow W B v L) (h' : IRow W B' v' L) (hL : L.length ≤ 1000) :
    Calls Tryd.prog 33 #[v, v'] W fun e w' => e = .returned (.bool true) ∧ Below W.heap.size W w' := by
  obtain ⟨a, c, rfl, h⟩ := h
  obtain ⟨a', c', rfl, h'⟩ := h'
  by_cases h0 : L.length = 0
  · rw [h0]; exact sameInts_nil _ _ _ _ _
  · obtain ⟨g, rfl, h1, h2, h3⟩ := h (by omega)
    obtain ⟨g', rfl, h4, h5, h6⟩ := h' (by omega)
    exact sameInts_row g 0 g' 0 L.length c c' (fun i => ((L.getD i 0 : Nat) : Int)) W h2 h5 hL (fun i hi => by rw [Nat.zero_add]; exact h3 i hi) (fun i hi => by rw [Nat.zero_add]; exact h6 i hi)
theorem rev_any {W : World} {B : Nat} {v : Value} {L : List Nat} (h : W.ownsRow B 3 1 v L.length (ixC L)) (hL : L.length ≤ 1000) :
    Calls Tryd.prog 72 #[v] W fun e w' => e = .returned (.tuple #[]) ∧ IRow w' B v L.reverse ∧ W.grownBy w' v.ownBlock := by
  by_cases h0 : L.length = 0
  · have hL0 : L = [] := List.length_eq_zero_iff.1 h0
    subst hL0
    have hr := irow_of h
    obtain ⟨a, cap, rfl, _⟩ := id hr
    refine (Any.slices_Reverse_int_empty lrev a cap W).mono ?_
    rintro e w' ⟨rfl, rfl⟩
    exact ⟨rfl, hr, World.grownBy.refl _ _⟩
  · obtain ⟨g, c, rfl⟩ := Go.Joins.ownsRow_form h (by omega)
    have hlen : (L.map (fun (i : Nat) => (i : Int))).length = L.length := by simp
    have hH : Holds (Value.int .i64) W g 0 (L.map (fun (i : Nat) => (i : Int))).toArray := fun j hj => by
      have hj' : j < L.length := by simpa using hj
      refine ⟨?_, h.frozenAt _⟩
      rw [Nat.zero_add, h.cellAt _ (by omega)]
      simp [ixC, hj']
    have hc := Any.slices_Reverse_int lrev g 0 c (L.map (fun (i : Nat) => (i : Int))) W hH (by rw [hlen]; omega)
    rw [hlen] at hc
    refine hc.mono ?_
    rintro e w' ⟨rfl, n, rfl⟩
    have hg := (h.lt g rfl)
    refine ⟨rfl, ⟨_, c, by simp, fun _ => ⟨g, rfl, hg.1, by simp [Sort.ahead]; exact hg.2, fun i hi => ?_⟩⟩, ?_⟩
    · have := (holds_putRow (Value.int .i64) (Sort.ahead W n) g 0 (L.map (fun (i : Nat) => (i : Int))).toArray (L.map (fun (i : Nat) => (i : Int))).reverse.toArray (holds_ahead (Value.int .i64) W n g 0 _ hH) (by simp) i (by simpa using hi)).1
      rw [Nat.zero_add] at this
      rw [this]
      have hi' : i < L.length := by simpa using hi
      simp [hi']
    · have := grownBy_sortedI (w := W) (g := g) (n := n) (os := #[]) (L.map (fun (i : Nat) => (i : Int))).reverse.toArray
      rw [grow_empty] at this
      exact this
end Go.Proofs.YtplhbklfaokjbaaDoor
