/- Open in the reference. -/
import Derived.Test.YtplhbklfaokjbaaDoorSints
namespace Go.Proofs.YtplhbklfaokjbaaDoor
open Go.RowKit
attribute [local go_sem] After.cell After.frozen After.lt After.le After.ne After.ne' After.set_eq After.size_set After.lt_add

/-- The open beds below m, from below. -/
def opL (f : Nat → Nat → Int) (n : Nat) (p : Int) (s : Nat) (m : Nat) : List Nat := (List.range m).filter (fun k => !clB (bI f n k) p s)
theorem opL_succ (f : Nat → Nat → Int) (n : Nat) (p : Int) (s k : Nat) : opL f n p s (k + 1) = opL f n p s k ++ if clB (bI f n k) p s then [] else [k] := by
  unfold opL
  rw [List.range_succ, List.filter_append]
  cases h : clB (bI f n k) p s <;> simp [h]
theorem opL_le (f : Nat → Nat → Int) (n : Nat) (p : Int) (s m : Nat) : (opL f n p s m).length ≤ m := by
  unfold opL
  have := List.length_filter_le (fun k => !clB (bI f n k) p s) (List.range m)
  simpa using this
theorem rOpen_err (v : Value) (p s e : Int) (w : World) (hE : ESay w v 0 p s e) (he : (e == 0) = false) :
    Calls Tryd.prog 32 #[v, .int .i64 p, .int .i64 s] w fun r w' => r = .returned (.tuple #[.slice none 0 0, .int .i64 e]) ∧ Below w.heap.size w w' := by
  have HE : Hid (∀ W, Below w.heap.size w W → _) := hE
  clear hE
  go_enter Tryd.func32, Tryd.ntmps32
  (go_wp2_with fail); refine calls_after (HE.out _ (by (repeat' (first | (with_reducible exact Below.refl _ _) | (with_reducible assumption) | (with_reducible refine Below.alloc ?_ ?_ _) | (with_reducible refine Below.drew ?_) | (with_reducible refine below_drewN ?_ _) | (with_reducible refine Below.setCell ?_ ?_ _) | (with_reducible refine below_after ?_ ?_ _) | (with_reducible refine below_set ?_) | (with_reducible refine After.size_le _ ?_) | (with_reducible refine size_alloc_le ?_) | (with_reducible refine size_set_le ?_) | (with_reducible refine size_drewN_le ?_) | go_size)))) ?_; intro x1
  go_wp2
  go_returns
  exact ⟨rfl, by (repeat' (first | (with_reducible exact Below.refl _ _) | (with_reducible assumption) | (with_reducible refine Below.alloc ?_ ?_ _) | (with_reducible refine Below.drew ?_) | (with_reducible refine below_drewN ?_ _) | (with_reducible refine Below.setCell ?_ ?_ _) | (with_reducible refine below_after ?_ ?_ _) | (with_reducible refine below_set ?_) | (with_reducible refine After.size_le _ ?_) | (with_reducible refine size_alloc_le ?_) | (with_reducible refine size_set_le ?_) | (with_reducible refine size_drewN_le ?_) | go_size))⟩
set_option maxRecDepth 100000 in
set_option maxHeartbeats 2000000 in
theorem rOpen_ok (a : Option Addr) (n cap : Nat) (f : Nat → Nat → Int) (p : Int) (s : Nat) (w : World) (hn : n ≤ 60) (hE : ESay w (.slice a n cap) 0 p s 0)
    (hH : ∀ (k : Nat) W, k < n → Below w.heap.size w W → Calls Tryd.prog 67 #[.slice a n cap, .int .i64 (k : Nat), .int .i64 p, .int .i64 s] W fun e w' => e = .returned (.bool (clB (bI f n k) p s)) ∧ Below W.heap.size W w') :
    Calls Tryd.prog 32 #[.slice a n cap, .int .i64 p, .int .i64 s] w fun e w' => ∃ v, e = .returned (.tuple #[v, .int .i64 0]) ∧ w'.ownsRow w.heap.size 3 1 v (opL f n p s n).length (ixC (opL f n p s n)) ∧ Below w.heap.size w w' := by
  have HE : Hid (∀ W, Below w.heap.size w W → _) := hE
  have HH := Lib.hid hH
  obtain ⟨i0, hi, hz0, hz1, hz2⟩ := info_parts ixInfo
  clear hH hE
  go_enter Tryd.func32, Tryd.ntmps32
  (go_wp2_with fail); refine calls_after (HE.out _ (by (repeat' (first | (with_reducible exact Below.refl _ _) | (with_reducible assumption) | (with_reducible refine Below.alloc ?_ ?_ _) | (with_reducible refine Below.drew ?_) | (with_reducible refine below_drewN ?_ _) | (with_reducible refine Below.setCell ?_ ?_ _) | (with_reducible refine below_after ?_ ?_ _) | (with_reducible refine below_set ?_) | (with_reducible refine After.size_le _ ?_) | (with_reducible refine size_alloc_le ?_) | (with_reducible refine size_set_le ?_) | (with_reducible refine size_drewN_le ?_) | go_size)))) ?_; intro x1
  have hB1 : Below w.heap.size w x1.w := by (repeat' (first | (with_reducible exact Below.refl _ _) | (with_reducible assumption) | (with_reducible refine Below.alloc ?_ ?_ _) | (with_reducible refine Below.drew ?_) | (with_reducible refine below_drewN ?_ _) | (with_reducible refine Below.setCell ?_ ?_ _) | (with_reducible refine below_after ?_ ?_ _) | (with_reducible refine below_set ?_) | (with_reducible refine After.size_le _ ?_) | (with_reducible refine size_alloc_le ?_) | (with_reducible refine size_set_le ?_) | (with_reducible refine size_drewN_le ?_) | go_size))
  go_wp2_with fail
  go_loopw [9, 10] (fun v i wr => ∃ k : Nat, k ≤ n ∧ i = .int .i64 k ∧ ∃ x : After x1.w, wr = x.w ∧ x.w.ownsRow x1.w.heap.size 3 1 v (opL f n p s k).length (ixC (opL f n p s k))) (fun _ i _ => n - (intOf i).toNat)
  case atStart => exact ⟨0, by omega, rfl, ⟨x1.w, Below.refl _ _⟩, rfl, World.ownsRow_nil _ _ _ _⟩
  case round =>
    obtain ⟨k, hk, rfl, x, rfl, hown⟩ := hrel
    have hsx := x.out.size
    have HO := Lib.hid hown
    clear hown
    by_cases hlt : k < n
    · have HK := Lib.hid (HH.out k x.w hlt (hB1.trans (x.out.mono hB1.size)))
      have hS := Lib.hid (opL_succ f n p s k)
      have hle := opL_le f n p s k
      generalize clB (bI f n k) p s = q at *
      cases q
      · go_wp2_with fail
        refine HK.out.mono ?_
        rintro e w2 ⟨rfl, hb2⟩
        have hown := owns_on HO.out hb2
        obtain ⟨y, rfl⟩ := after_ofB (x.out.trans (hb2.mono x.out.size))
        have hsz := y.out.size
        clear hb2
        go_wp2_with (at_builtin; refine wpList_append_own _ rfl _ _ 41 rfl x1.w.heap.size 3 i0 (.int .i64 0) 1 8 Tryd.underlying41 hi hz0 hz1 hz2 rfl (by decide) _ _ _ rfl (hown.alloc _) ⟨y.w.heap.size, 0, none⟩ 1 1 [.int .i64 k] rfl rfl (World.news_of_block (cs := #[.int .i64 k]) (t := 3) (fr := (0, 0)) (heap_alloc_new y.w _)) (by simp [Value.oneCell']) (by unfold maxLen; omega) (by omega) (by simp; omega) ?_; intro v' w1 hown' hgrow _)
        go_roundw
        case rel => exact ⟨k + 1, by omega, by go_num, ⟨w1, (y.out.alloc y.out.size _).grown hgrow (by simp; omega) (fun j e => (hown.lt j e).1)⟩, rfl, by rw [hS.out]; simpa [ixC] using hown'⟩
        case measure => simp [intOf]; omega
      · go_wp2_with fail
        refine HK.out.mono ?_
        rintro e w2 ⟨rfl, hb2⟩
        have hown := owns_on HO.out hb2
        obtain ⟨y, rfl⟩ := after_ofB (x.out.trans (hb2.mono x.out.size))
        clear hb2
        go_wp2
        go_roundw
        case rel => exact ⟨k + 1, by omega, by go_num, y, rfl, by rw [hS.out]; simpa using hown⟩
        case measure => simp [intOf]; omega
    · obtain rfl : n = k := by omega
      have hB2 := Lib.hid (hB1.trans (x.out.mono hB1.size))
      have hB1 := Lib.hid hB1.size
      go_wp2
      go_returns
      exact ⟨_, rfl, HO.out.mono hB1.out, hB2.out⟩
end Go.Proofs.YtplhbklfaokjbaaDoor
