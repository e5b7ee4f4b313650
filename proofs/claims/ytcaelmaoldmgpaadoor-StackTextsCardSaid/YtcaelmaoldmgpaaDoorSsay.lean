/- What Parse and Format of a stack say in every later world. -/
import Derived.Test.YtcaelmaoldmgpaaDoorSixq
import Derived.Test.YtcaelmaoldmgpaaDoorSixf
namespace Go.Proofs.YtcaelmaoldmgpaaDoor
open Go.RowKit Cr
attribute [local go_sem] After.cell After.frozen After.lt After.le After.ne After.ne' After.set_eq After.size_set After.lt_add eq6_self
attribute [local go_sem 10000] neq_course

/-- What readCourse answers, in any world. -/
def RdSay : Prop := ∀ (t : List UInt8) (W : World), t.length ≤ 65536 → Std W → Calls Tryd.prog 21 #[.string (tx t)] W fun e w' => RdAns t e ∧ Below W.heap.size W w'
theorem pansC_whole {W : World} {B : Nat} {ls : List (List UInt8)} {x : Ending} {k : Nat} {f : Nat → Nat → Int} (h : PAnsC W B ls x) (hw : WholeC ls k f) : ∃ v, x = .returned (.tuple #[v, .int .i64 0, .int .i64 0]) ∧ CrOwn W B v k f := by
  rcases h with ⟨k', f', v, h1, rfl, h3⟩ | ⟨k', h1, _⟩
  · obtain rfl : k' = k := by have a := hw.2.1; have b := h1.2.1; omega
    refine ⟨v, rfl, ?_⟩
    obtain ⟨g, cap, e, c1, c2, c3, c4⟩ := crOwn_of h3 h1.2.2.1
    exact ⟨g, cap, e, c1, c2, c3, c4.congr fun i j hi hj => pg_same h1.1 hw.1 hi hi j hj⟩
  · exact (wholeC_stops hw h1).elim
theorem pansC_stops {W : World} {B : Nat} {ls : List (List UInt8)} {x : Ending} {k : Nat} (h : PAnsC W B ls x) (hs : StopsC ls k) : x = .returned (.tuple #[.slice none 0 0, .int .i64 k, .int .i64 2]) := by
  rcases h with ⟨k', f', v, h1, _⟩ | ⟨k', h1, rfl⟩
  · exact (wholeC_stops h1 hs).elim
  · rw [stopsC_same h1 hs]
theorem parseC_whole (hR : RdSay) {L : List UInt8} {w : World} {k : Nat} {f : Nat → Nat → Int} (hL : L.length ≤ 65536) (hS : Std w) (hw : WholeC (wordsL 10 L) k f) : ∀ W, Below w.heap.size w W →
    Calls Tryd.prog 6 #[.string (tx L)] W fun e w' => (∃ B g cap, e = .returned (.tuple #[.slice (some ⟨g, 0, none⟩) k cap, .int .i64 0, .int .i64 0]) ∧ CrOwn w' B (.slice (some ⟨g, 0, none⟩) k cap) k f) ∧ Below W.heap.size W w' := fun W hW =>
  (parseC_any L W hL (hS.on hW) hR).mono fun e w' ⟨⟨B, h⟩, h2⟩ => by
    obtain ⟨v, h3, h4⟩ := pansC_whole h hw
    obtain ⟨g, cap, rfl, _⟩ := id h4
    exact ⟨⟨B, g, cap, h3, h4⟩, h2⟩
theorem rparseC_whole {L : List UInt8} {w : World} {k : Nat} {f : Nat → Nat → Int} (hL : L.length ≤ 65536) (hw : WholeC (wordsL 10 L) k f) : ∀ W, Below w.heap.size w W →
    Calls Tryd.prog 7 #[.string (tx L)] W fun e w' => (∃ B g cap, e = .returned (.tuple #[.slice (some ⟨g, 0, none⟩) k cap, .int .i64 0, .int .i64 0]) ∧ CrOwn w' B (.slice (some ⟨g, 0, none⟩) k cap) k f) ∧ Below W.heap.size W w' := fun W _ =>
  (rparseC_any L W hL).mono fun e w' ⟨⟨B, h⟩, h2⟩ => by
    obtain ⟨v, h3, h4⟩ := pansC_whole h hw
    obtain ⟨g, cap, rfl, _⟩ := id h4
    exact ⟨⟨B, g, cap, h3, h4⟩, h2⟩
def NoTextC (w : World) (L : List UInt8) (k c : Int) : Prop :=
  (∀ W, Below w.heap.size w W → Calls Tryd.prog 6 #[.string (tx L)] W fun e w' => e = .returned (.tuple #[.slice none 0 0, .int .i64 k, .int .i64 c]) ∧ Below W.heap.size W w') ∧
  (∀ W, Below w.heap.size w W → Calls Tryd.prog 7 #[.string (tx L)] W fun e w' => e = .returned (.tuple #[.slice none 0 0, .int .i64 k, .int .i64 c]) ∧ Below W.heap.size W w') ∧ (c == 0) = false
theorem noTextC_long {L : List UInt8} (w : World) (hL : 65536 < L.length) : NoTextC w L 0 3 :=
  ⟨fun W _ => parseC_long L W hL, fun W _ => rparseC_long L W hL, rfl⟩
theorem noTextC_stops (hR : RdSay) {L : List UInt8} {w : World} {k : Nat} (hL : L.length ≤ 65536) (hS : Std w) (hs : StopsC (wordsL 10 L) k) : NoTextC w L k 2 :=
  ⟨fun W hW => (parseC_any L W hL (hS.on hW) hR).mono fun _ _ ⟨⟨_, h⟩, h2⟩ => ⟨pansC_stops h hs, h2⟩, fun W _ => (rparseC_any L W hL).mono fun _ _ ⟨⟨_, h⟩, h2⟩ => ⟨pansC_stops h hs, h2⟩, rfl⟩
theorem noTextC_none (hR : RdSay) {L : List UInt8} {w : World} (hL : L.length ≤ 65536) (hS : Std w) (h1 : ¬ ∃ k f, WholeC (wordsL 10 L) k f) (h2 : ¬ ∃ k, StopsC (wordsL 10 L) k) : NoTextC w L 0 2 :=
  ⟨fun W hW => (parseC_any L W hL (hS.on hW) hR).mono fun _ _ ⟨⟨_, h⟩, _⟩ => by
      rcases h with ⟨k, f, _, h, _⟩ | ⟨k, h, _⟩
      · exact (h1 ⟨k, f, h⟩).elim
      · exact (h2 ⟨k, h⟩).elim,
    fun W _ => (rparseC_any L W hL).mono fun _ _ ⟨⟨_, h⟩, _⟩ => by
      rcases h with ⟨k, f, _, h, _⟩ | ⟨k, h, _⟩
      · exact (h1 ⟨k, f, h⟩).elim
      · exact (h2 ⟨k, h⟩).elim, rfl⟩
theorem textC_or (hR : RdSay) {w : World} (L : List UInt8) (hS : Std w) : (L.length ≤ 65536 ∧ ∃ k f, WholeC (wordsL 10 L) k f) ∨ ∃ k c, NoTextC w L k c := by
  by_cases hL : L.length ≤ 65536
  · by_cases h1 : ∃ k f, WholeC (wordsL 10 L) k f
    · exact .inl ⟨hL, h1⟩
    · by_cases h2 : ∃ k, StopsC (wordsL 10 L) k
      · obtain ⟨k, h⟩ := h2
        exact .inr ⟨_, _, noTextC_stops hR hL hS h⟩
      · exact .inr ⟨_, _, noTextC_none hR hL hS h1 h2⟩
  · exact .inr ⟨_, _, noTextC_long w (by omega)⟩

/-- Format of a stack, good or bad. -/
def formS (n : Nat) (f : Nat → Nat → Int) : List UInt8 := if GoodC n f then formC n f else []
theorem formatC_say {w : World} {v : Value} {n : Nat} {f : Nat → Nat → Int} (h : Crs w w.heap.size v n f) (hl : n ≤ 100) (hS : Std w) : ∀ W, Below w.heap.size w W →
    Calls Tryd.prog 9 #[v] W fun e w' => e = .returned (.string (tx (formS n f))) ∧ Below W.heap.size W w' := fun W hW => by
  have hv := (csay h (by omega)).later hW
  obtain ⟨a, cap, rfl, hh⟩ := h.on hW
  unfold formS
  by_cases hG : GoodC n f
  · rw [if_pos hG]
    rw [decide_eq_true hG] at hv
    obtain ⟨b, off, rfl, hb, hc⟩ := hh hG.1
    exact formatC_ok b off cap n f W hb hc hG hv (hS.on hW)
  · rw [if_neg hG]
    rw [decide_eq_false hG] at hv
    exact formatC_bad a n cap W hv
theorem rformatC_say {w : World} {v : Value} {n : Nat} {f : Nat → Nat → Int} (h : Crs w w.heap.size v n f) (hl : n ≤ 100) : ∀ W, Below w.heap.size w W →
    Calls Tryd.prog 10 #[v] W fun e w' => e = .returned (.string (tx (formS n f))) ∧ Below W.heap.size W w' := fun W hW => by
  have hv := (rcsay h (by omega)).later hW
  obtain ⟨a, cap, rfl, hh⟩ := h.on hW
  unfold formS
  by_cases hG : GoodC n f
  · rw [if_pos hG]
    rw [decide_eq_true hG] at hv
    obtain ⟨b, off, rfl, hb, hc⟩ := hh hG.1
    exact rformatC_ok b off cap n f W hb hc hG hv
  · rw [if_neg hG]
    rw [decide_eq_false hG] at hv
    exact rformatC_bad a n cap W hv

set_option maxRecDepth 100000 in
set_option maxHeartbeats 1000000 in
theorem sameC_cells (g off g' off' n c c' : Nat) (f : Nat → Nat → Int) (w : World) (hb : g < w.heap.size) (hb' : g' < w.heap.size) (h : CrCells w g off n f) (h' : CrCells w g' off' n f) (hn : n ≤ 1000) :
    Calls Tryd.prog 8 #[.slice (some ⟨g, off, none⟩) n c, .slice (some ⟨g', off', none⟩) n c'] w fun e w' => e = .returned (.bool true) ∧ Below w.heap.size w w' := by
  have HC := Lib.hid h
  have HC' := Lib.hid h'
  clear h h'
  go_enter Tryd.func8, Tryd.ntmps8
  go_wp2
  go_loopw [5] (fun i wr => ∃ k : Nat, k ≤ n ∧ i = .int .i64 k ∧ ∃ x : After w, wr = x.w) (fun i _ => n - (intOf i).toNat)
  case atStart => exact ⟨0, by omega, rfl, ⟨w, Below.refl _ _⟩, rfl⟩
  case round =>
    obtain ⟨k, hk, rfl, x, rfl⟩ := hrel
    by_cases hlt : k < n
    · obtain ⟨c0, c1, c2, c3, c4, c5⟩ := HC.out k hlt
      obtain ⟨d0, d1, d2, d3, d4, d5⟩ := HC'.out k hlt
      go_wp2
      refine wp_region_after (by kernel_rfl) (by kernel_rfl) ?_; (repeat (first | go_big_quiet_step ((fail)) | (refine wpQuiet_step (fun K hK => ?_); go_simp; first | (refine hK _ ?_; clear hK K) | (apply Exists.intro; refine ⟨fun x => ?_, hK _ ?_⟩; (fail); clear hK K)))); refine wpQuiet_nil ?_
      intro y
      go_wp2
      go_roundw
      case rel => exact ⟨k + 1, by omega, by go_num, ⟨_, x.out.trans (y.out.mono x.out.size)⟩, rfl⟩
      case measure => simp [intOf]; omega
    · obtain rfl : n = k := by omega
      go_wp2
      go_ret
      exact ⟨rfl, by (repeat' (first | (with_reducible exact Below.refl _ _) | (with_reducible assumption) | (with_reducible refine Below.alloc ?_ ?_ _) | (with_reducible refine Below.drew ?_) | (with_reducible refine below_drewN ?_ _) | (with_reducible refine Below.setCell ?_ ?_ _) | (with_reducible refine below_after ?_ ?_ _) | (with_reducible refine below_set ?_) | (with_reducible refine After.size_le _ ?_) | (with_reducible refine size_alloc_le ?_) | (with_reducible refine size_set_le ?_) | (with_reducible refine size_drewN_le ?_) | go_size))⟩
theorem same_crs {w : World} {v v' : Value} {n : Nat} {f : Nat → Nat → Int} (h : Crs w w.heap.size v n f) (h' : Crs w w.heap.size v' n f) (hn : n ≤ 100) : ∀ W, Below w.heap.size w W →
    Calls Tryd.prog 8 #[v, v'] W fun e w' => e = .returned (.bool true) ∧ Below W.heap.size W w' := fun W hW => by
  obtain ⟨a, c, rfl, k⟩ := h.on hW
  obtain ⟨a', c', rfl, k'⟩ := h'.on hW
  rcases Nat.eq_zero_or_pos n with rfl | h0
  · exact same_nil _ _ _ _ _
  · obtain ⟨b, off, rfl, hb, hc⟩ := k h0
    obtain ⟨b', off', rfl, hb', hc'⟩ := k' h0
    exact sameC_cells b off b' off' n c c' f W hb hb' hc hc' (by omega)
end Go.Proofs.YtcaelmaoldmgpaaDoor
