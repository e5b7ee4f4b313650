/- What Valid answers of any stack that came in. -/
import Derived.Test.YtcaelmaoldmgpaaDoorCrAwk
import Derived.Test.YtcaelmaoldmgpaaDoorCrSumsr
namespace Go.Proofs.YtcaelmaoldmgpaaDoor.Cr
open Go.Proofs.YtcaelmaoldmgpaaDoor
open Go.RowKit
attribute [local go_sem] After.cell After.frozen After.lt After.le After.ne After.ne' After.set_eq After.size_set After.lt_add

/-- A slice of courses in memory. -/
def Crs (W : World) (B : Nat) (v : Value) (n : Nat) (f : Nat → Nat → Int) : Prop :=
  ∃ a cap, v = .slice a n cap ∧ (0 < n → ∃ b off, a = some ⟨b, off, none⟩ ∧ b < B ∧ CrCells W b off n f)
theorem Crs.on {w W : World} {v : Value} {n : Nat} {f : Nat → Nat → Int} (h : Crs w w.heap.size v n f) (hW : Below w.heap.size w W) : Crs W W.heap.size v n f := by
  obtain ⟨a, cap, rfl, h⟩ := h
  refine ⟨a, cap, rfl, fun h0 => ?_⟩
  obtain ⟨b, off, rfl, hb, hc⟩ := h h0
  exact ⟨b, off, rfl, Nat.lt_of_lt_of_le hb hW.size, hc.on hb hW⟩

theorem valid_empty (a : Option Addr) (cap : Nat) (w : World) :
    Calls Tryd.prog 25 #[.slice a 0 cap] w fun e w' => e = .returned (.bool false) ∧ Below w.heap.size w w' := by
  have HB := Lib.hid (fun w => between_any 0 1 60 w)
  rw [decide_eq_false (by unfold Btw; omega)] at HB
  go_enter Tryd.func25, Tryd.ntmps25
  (go_wp2_with fail); refine calls_after (HB.out _) ?_; intro x0
  go_wp2
  go_ret
  exact ⟨rfl, by (repeat' (first | (with_reducible exact Below.refl _ _) | (with_reducible assumption) | (with_reducible refine Below.alloc ?_ ?_ _) | (with_reducible refine Below.drew ?_) | (with_reducible refine below_drewN ?_ _) | (with_reducible refine Below.setCell ?_ ?_ _) | (with_reducible refine below_after ?_ ?_ _) | (with_reducible refine below_set ?_) | (with_reducible refine After.size_le _ ?_) | (with_reducible refine size_alloc_le ?_) | (with_reducible refine size_set_le ?_) | (with_reducible refine size_drewN_le ?_) | go_size))⟩
set_option maxRecDepth 100000 in
theorem rvalid_empty (a : Option Addr) (cap : Nat) (w : World) :
    Calls Tryd.prog 24 #[.slice a 0 cap] w fun e w' => e = .returned (.bool false) ∧ Below w.heap.size w w' := by
  have HB := Lib.hid (fun w => within_any 0 1 60 w)
  rw [decide_eq_false (by unfold Btw; omega)] at HB
  go_enter Tryd.func24, Tryd.ntmps24
  go_wp2
  go_loopw [3] (fun i wr => i = .int .i64 0 ∧ wr = w) (fun _ _ => 0)
  case atStart => exact ⟨rfl, rfl⟩
  case round =>
    obtain ⟨rfl, rfl⟩ := hrel
    (go_wp2_with fail); refine calls_after (HB.out _) ?_; intro x0
    go_wp2
    go_ret
    exact ⟨rfl, by (repeat' (first | (with_reducible exact Below.refl _ _) | (with_reducible assumption) | (with_reducible refine Below.alloc ?_ ?_ _) | (with_reducible refine Below.drew ?_) | (with_reducible refine below_drewN ?_ _) | (with_reducible refine Below.setCell ?_ ?_ _) | (with_reducible refine below_after ?_ ?_ _) | (with_reducible refine below_set ?_) | (with_reducible refine After.size_le _ ?_) | (with_reducible refine size_alloc_le ?_) | (with_reducible refine size_set_le ?_) | (with_reducible refine size_drewN_le ?_) | go_size))⟩
theorem not_good0 (f : Nat → Nat → Int) : ¬ GoodC 0 f := fun h => by have := h.1; omega
theorem csay {w : World} {v : Value} {n : Nat} {f : Nat → Nat → Int} (h : Crs w w.heap.size v n f) (hl : n ≤ 1000) : CSay w v (decide (GoodC n f)) := fun W hW => by
  obtain ⟨a, cap, rfl, hh⟩ := h.on hW
  rcases Nat.eq_zero_or_pos n with rfl | h0
  · rw [decide_eq_false (not_good0 f)]; exact valid_empty a cap W
  · obtain ⟨b, off, rfl, hb, hc⟩ := hh h0
    exact valid_any b off cap n f W hb hl hc
theorem rcsay {w : World} {v : Value} {n : Nat} {f : Nat → Nat → Int} (h : Crs w w.heap.size v n f) (hl : n ≤ 1000) : RCSay w v (decide (GoodC n f)) := fun W hW => by
  obtain ⟨a, cap, rfl, hh⟩ := h.on hW
  rcases Nat.eq_zero_or_pos n with rfl | h0
  · rw [decide_eq_false (not_good0 f)]; exact rvalid_empty a cap W
  · obtain ⟨b, off, rfl, hb, hc⟩ := hh h0
    exact rvalid_any b off cap n f W hb hl hc

/-- What a call answers in every later world. -/
def LSay (w : World) (F : FuncId) (args : Array Value) (r : Value) : Prop := ∀ W, Below w.heap.size w W → Calls Tryd.prog F args W fun e w' => e = .returned r ∧ Below W.heap.size W w'
theorem CSay.later {w W : World} {v : Value} {g : Bool} (h : CSay w v g) (hW : Below w.heap.size w W) : CSay W v g := fun V hV => h V (hW.trans (hV.mono hW.size))
theorem RCSay.later {w W : World} {v : Value} {g : Bool} (h : RCSay w v g) (hW : Below w.heap.size w W) : RCSay W v g := fun V hV => h V (hW.trans (hV.mono hW.size))

/-- What bedAt, and the reference's bedError and over, answer of any stack. -/
theorem bsay {w : World} {v : Value} {n : Nat} {f : Nat → Nat → Int} (h : Crs w w.heap.size v n f) (hl : n ≤ 1000) (i : Int) : BSay w v i (if GoodC n f then bdV f n i else zbed) (if GoodC n f then bdE n i else 1) := fun W hW => by
  have hC := (csay h hl).later hW
  obtain ⟨a, cap, rfl, hh⟩ := h.on hW
  by_cases hG : GoodC n f
  · rw [decide_eq_true hG] at hC
    rw [if_pos hG, if_pos hG]
    obtain ⟨b, off, rfl, hb, hc⟩ := hh hG.1
    exact bedAt_ok b off cap n f i W hb hc hG hC
  · rw [decide_eq_false hG] at hC
    rw [if_neg hG, if_neg hG]
    exact bedAt_bad a n cap i W hC
end Go.Proofs.YtcaelmaoldmgpaaDoor.Cr
