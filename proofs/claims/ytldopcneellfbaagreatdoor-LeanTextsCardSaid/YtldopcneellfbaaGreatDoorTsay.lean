/- What Parse and Format of both programs say in every later world. -/
import Derived.Test.YtldopcneellfbaaGreatDoorParsep
import Derived.Test.YtldopcneellfbaaGreatDoorFmtp
import Derived.Test.YtldopcneellfbaaGreatDoorFormw
namespace Go.Proofs.YtldopcneellfbaaGreatDoor
open Go.RowKit
attribute [local go_sem] After.cell After.frozen After.lt After.le After.ne After.ne' After.set_eq After.size_set After.lt_add eq3_self
attribute [local go_sem 10000] eql_mark neq_mark

theorem pans_whole {W : World} {B : Nat} {ls : List (List UInt8)} {x : Ending} {k : Nat} {f : Nat → Nat → Int} (h : PAns W B ls x) (hw : Whole ls k f) : ∃ v, x = .returned (.tuple #[v, .int .i64 0, .int .i64 0]) ∧ MkOwn W B v k f := by
  rcases h with ⟨k', f', v, h1, rfl, h3⟩ | ⟨k', f', h1, _⟩
  · obtain rfl : k' = k := by have a := hw.2.1; have b := h1.2.1; omega
    refine ⟨v, rfl, ?_⟩
    obtain ⟨g, cap, e, c1, c2, c3, c4⟩ := mkOwn_of h3 h1.2.2.1
    refine ⟨g, cap, e, c1, c2, c3, c4.lt, c4.free, fun i hi => ?_⟩
    obtain ⟨p0, p1, p2⟩ := pgood_same h1.1 hw.1 hi hi
    rw [← p0, ← p1, ← p2]
    exact c4.got i hi
  · exact (whole_stops hw h1).elim
theorem pans_stops {W : World} {B : Nat} {ls : List (List UInt8)} {x : Ending} {k : Nat} {f : Nat → Nat → Int} (h : PAns W B ls x) (hs : Stops ls k f) : x = .returned (.tuple #[.slice none 0 0, .int .i64 k, .int .i64 2]) := by
  rcases h with ⟨k', f', v, h1, _⟩ | ⟨k', f', h1, rfl⟩
  · exact (whole_stops h1 hs).elim
  · rw [stops_same h1 hs]
/-- Parse of a text that is read. -/
theorem parse_whole {L : List UInt8} {w : World} {k : Nat} {f : Nat → Nat → Int} (hL : L.length ≤ 65536) (hS : Std w) (hw : Whole (wordsL 10 L) k f) : ∀ W, Below w.heap.size w W →
    Calls Tryz.prog 5 #[.string (tx L)] W fun e w' => (∃ B g cap, e = .returned (.tuple #[.slice (some ⟨g, 0, none⟩) k cap, .int .i64 0, .int .i64 0]) ∧ MkOwn w' B (.slice (some ⟨g, 0, none⟩) k cap) k f) ∧ Below W.heap.size W w' := fun W hW =>
  (parse_any L W hL (hS.on hW)).mono fun e w' ⟨⟨B, h⟩, h2⟩ => by
    obtain ⟨v, h3, h4⟩ := pans_whole h hw
    obtain ⟨g, cap, rfl, _⟩ := id h4
    exact ⟨⟨B, g, cap, h3, h4⟩, h2⟩
theorem rparse_whole {L : List UInt8} {w : World} {k : Nat} {f : Nat → Nat → Int} (hL : L.length ≤ 65536) (hw : Whole (wordsL 10 L) k f) : ∀ W, Below w.heap.size w W →
    Calls Tryz.prog 6 #[.string (tx L)] W fun e w' => (∃ B g cap, e = .returned (.tuple #[.slice (some ⟨g, 0, none⟩) k cap, .int .i64 0, .int .i64 0]) ∧ MkOwn w' B (.slice (some ⟨g, 0, none⟩) k cap) k f) ∧ Below W.heap.size W w' := fun W _ =>
  (rparse_any L W hL).mono fun e w' ⟨⟨B, h⟩, h2⟩ => by
    obtain ⟨v, h3, h4⟩ := pans_whole h hw
    obtain ⟨g, cap, rfl, _⟩ := id h4
    exact ⟨⟨B, g, cap, h3, h4⟩, h2⟩
/-- Both programs' Parse of a text that is not read: the line and the error. -/
def NoText (w : World) (L : List UInt8) (k c : Int) : Prop :=
  (∀ W, Below w.heap.size w W → Calls Tryz.prog 5 #[.string (tx L)] W fun e w' => e = .returned (.tuple #[.slice none 0 0, .int .i64 k, .int .i64 c]) ∧ Below W.heap.size W w') ∧
  (∀ W, Below w.heap.size w W → Calls Tryz.prog 6 #[.string (tx L)] W fun e w' => e = .returned (.tuple #[.slice none 0 0, .int .i64 k, .int .i64 c]) ∧ Below W.heap.size W w') ∧ (c == 0) = false
theorem noText_long {L : List UInt8} (w : World) (hL : 65536 < L.length) : NoText w L 0 3 :=
  ⟨fun W _ => parse_long L W hL, fun W _ => rparse_long L W hL, rfl⟩
theorem noText_stops {L : List UInt8} {w : World} {k : Nat} {f : Nat → Nat → Int} (hL : L.length ≤ 65536) (hS : Std w) (hs : Stops (wordsL 10 L) k f) : NoText w L k 2 :=
  ⟨fun W hW => (parse_any L W hL (hS.on hW)).mono fun _ _ ⟨⟨_, h⟩, h2⟩ => ⟨pans_stops h hs, h2⟩, fun W _ => (rparse_any L W hL).mono fun _ _ ⟨⟨_, h⟩, h2⟩ => ⟨pans_stops h hs, h2⟩, rfl⟩
theorem noText_none {L : List UInt8} {w : World} (hL : L.length ≤ 65536) (hS : Std w) (h1 : ¬ ∃ k f, Whole (wordsL 10 L) k f) (h2 : ¬ ∃ k f, Stops (wordsL 10 L) k f) : NoText w L 0 2 :=
  ⟨fun W hW => (parse_any L W hL (hS.on hW)).mono fun _ _ ⟨⟨_, h⟩, _⟩ => by
      rcases h with ⟨k, f, _, h, _⟩ | ⟨k, f, h, _⟩
      · exact (h1 ⟨k, f, h⟩).elim
      · exact (h2 ⟨k, f, h⟩).elim,
    fun W _ => (rparse_any L W hL).mono fun _ _ ⟨⟨_, h⟩, _⟩ => by
      rcases h with ⟨k, f, _, h, _⟩ | ⟨k, f, h, _⟩
      · exact (h1 ⟨k, f, h⟩).elim
      · exact (h2 ⟨k, f, h⟩).elim, rfl⟩
/-- Each text is read, or is not. -/
theorem text_or {w : World} (L : List UInt8) (hS : Std w) : (L.length ≤ 65536 ∧ ∃ k f, Whole (wordsL 10 L) k f) ∨ ∃ k c, NoText w L k c := by
  by_cases hL : L.length ≤ 65536
  · by_cases h1 : ∃ k f, Whole (wordsL 10 L) k f
    · exact .inl ⟨hL, h1⟩
    · by_cases h2 : ∃ k f, Stops (wordsL 10 L) k f
      · obtain ⟨k, f, h⟩ := h2
        exact .inr ⟨_, _, noText_stops hL hS h⟩
      · exact .inr ⟨_, _, noText_none hL hS h1 h2⟩
  · exact .inr ⟨_, _, noText_long w (by omega)⟩

theorem whole_good {ls : List (List UInt8)} {k : Nat} {f : Nat → Nat → Int} (h : Whole ls k f) : GoodM k f := ⟨h.2.2.1, h.1.1, fun i hi => (h.1.2 i hi).1⟩
theorem MSay.on {w W : World} {v : Value} {b : Bool} (h : MSay w v b) (hW : Below w.heap.size w W) : MSay W v b := fun W' hW' => h W' (hW.trans (hW'.mono hW.size))
theorem RMSay.on {w W : World} {v : Value} {b : Bool} (h : RMSay w v b) (hW : Below w.heap.size w W) : RMSay W v b := fun W' hW' => h W' (hW.trans (hW'.mono hW.size))
/-- Format of a survey, good or bad. -/
def formA (n : Nat) (f : Nat → Nat → Int) : List UInt8 := if GoodM n f then formL n f else []
theorem format_say {w : World} {v : Value} {n : Nat} {f : Nat → Nat → Int} (h : Mks w v n f) (hl : n ≤ 100) (hS : Std w) : ∀ W, Below w.heap.size w W →
    Calls Tryz.prog 8 #[v] W fun e w' => e = .returned (.string (tx (formA n f))) ∧ Below W.heap.size W w' := fun W hW => by
  have hv := (say_mks h hl).on hW
  unfold formA
  by_cases hG : GoodM n f
  · rw [if_pos hG]
    rw [decide_eq_true hG] at hv
    obtain ⟨b, off, cap, rfl, hb, hc⟩ := mks_good h hG
    exact format_ok b off cap n f W (Nat.lt_of_lt_of_le hb hW.size) (hc.on hb hW) hG hv (hS.on hW)
  · rw [if_neg hG]
    rw [decide_eq_false hG] at hv
    obtain ⟨a, cap, rfl⟩ := mks_slice h
    exact format_bad a n cap W hv
theorem rformat_say {w : World} {v : Value} {n : Nat} {f : Nat → Nat → Int} (h : Mks w v n f) (hl : n ≤ 100) : ∀ W, Below w.heap.size w W →
    Calls Tryz.prog 9 #[v] W fun e w' => e = .returned (.string (tx (formA n f))) ∧ Below W.heap.size W w' := fun W hW => by
  have hv := (rsay_mks h hl).on hW
  unfold formA
  by_cases hG : GoodM n f
  · rw [if_pos hG]
    rw [decide_eq_true hG] at hv
    obtain ⟨b, off, cap, rfl, hb, hc⟩ := mks_good h hG
    exact rformat_ok b off cap n f W (Nat.lt_of_lt_of_le hb hW.size) (hc.on hb hW) hG hv
  · rw [if_neg hG]
    rw [decide_eq_false hG] at hv
    obtain ⟨a, cap, rfl⟩ := mks_slice h
    exact rformat_bad a n cap W hv
theorem own_mks {w : World} {B n : Nat} {v : Value} {f : Nat → Nat → Int} (h : MkOwn w B v n f) (h1 : 1 ≤ n) : Mks w v n f := by
  obtain ⟨g, cap, rfl, c1, c2, _, c4⟩ := h
  exact .inr ⟨g, 0, cap, rfl, h1, c4.lt, c1, c2, c4.mk'⟩
theorem formL_len {f : Nat → Nat → Int} : ∀ {n : Nat}, (∀ i, i < n → InMk (f i 0) (f i 1) (f i 2)) → n ≤ (formL n f).length ∧ (formL n f).length ≤ n * 63
  | 0, _ => ⟨by omega, by simp [formL]⟩
  | n + 1, h => by
    have ih := formL_len (n := n) fun i hi => h i (by omega)
    have hl := listL_len _ _ _ (h n (by omega))
    rw [formL_succ, ← listL_three, List.length_append]
    simp at hl ⊢
    omega

set_option maxRecDepth 100000 in
set_option maxHeartbeats 1000000 in
theorem sameMarks_cells (g off g' off' n c c' : Nat) (f : Nat → Nat → Int) (w : World) (hb : g < w.heap.size) (hb' : g' < w.heap.size) (h : MkCells w g off n f) (h' : MkCells w g' off' n f) (hn : n ≤ 1000) :
    Calls Tryz.prog 7 #[.slice (some ⟨g, off, none⟩) n c, .slice (some ⟨g', off', none⟩) n c'] w fun e w' => e = .returned (.bool true) ∧ Below w.heap.size w w' := by
  have HC := Lib.hid h
  have HC' := Lib.hid h'
  clear h h'
  go_enter Tryz.func7, Tryz.ntmps7
  go_wp2
  go_loopw [5] (fun i wr => ∃ k : Nat, k ≤ n ∧ i = .int .i64 k ∧ ∃ x : After w, wr = x.w) (fun i _ => n - (intOf i).toNat)
  case atStart => exact ⟨0, by omega, rfl, ⟨w, Below.refl _ _⟩, rfl⟩
  case round =>
    obtain ⟨k, hk, rfl, x, rfl⟩ := hrel
    by_cases hlt : k < n
    · obtain ⟨c1, c2, c3⟩ := HC.out k hlt
      obtain ⟨d1, d2, d3⟩ := HC'.out k hlt
      go_wp2
      refine wp_region_after (by kernel_rfl) (by kernel_rfl) ?_; (repeat (first | go_big_quiet_step ((fail)) | (refine wpQuiet_step (fun K hK => ?_); go_simp; first | (refine hK _ ?_; clear hK K) | (apply Exists.intro; refine ⟨fun x => ?_, hK _ ?_⟩; (fail); clear hK K)))); refine wpQuiet_nil ?_
      intro y
      go_wp2
      go_roundw
      case rel => exact ⟨k + 1, by omega, by go_num, ⟨_, x.out.trans (y.out.mono x.out.size)⟩, rfl⟩
      case measure => simp [intOf]; omega
    · obtain rfl : n = k := by omega
      go_wp2
      go_ret
      exact ⟨rfl, by (repeat' (first | (with_reducible exact Below.refl _ _) | (with_reducible assumption) | (with_reducible refine Below.alloc ?_ ?_ _) | (with_reducible refine Below.drew ?_) | (with_reducible refine below_drewN ?_ _) | (with_reducible refine Below.setCell ?_ ?_ _) | (with_reducible refine below_after ?_ ?_ _) | (with_reducible refine below_set ?_) | (with_reducible refine After.size_le _ ?_) | (with_reducible refine size_alloc_le ?_) | (with_reducible refine size_set_le ?_) | (with_reducible refine size_drewN_le ?_) | go_size))⟩
theorem same_mks {w : World} {v v' : Value} {n : Nat} {f : Nat → Nat → Int} (h : Mks w v n f) (h' : Mks w v' n f) (hn : n ≤ 100) : ∀ W, Below w.heap.size w W →
    Calls Tryz.prog 7 #[v, v'] W fun e w' => e = .returned (.bool true) ∧ Below W.heap.size W w' := fun W hW => by
  rcases h with ⟨a, cap, rfl, rfl⟩ | ⟨b, off, cap, rfl, h1, hb, _, _, hc⟩ <;> rcases h' with ⟨a', cap', rfl, h2⟩ | ⟨b', off', cap', rfl, h1', hb', _, _, hc'⟩
  · exact sameMarks_nil a a' cap cap' W
  · omega
  · omega
  · exact sameMarks_cells b off b' off' n cap cap' f W (Nat.lt_of_lt_of_le hb hW.size) (Nat.lt_of_lt_of_le hb' hW.size) (hc.on hb hW) (hc'.on hb' hW) (by omega)
end Go.Proofs.YtldopcneellfbaaGreatDoor
