/- What Valid answers of any stack that came in. -/
import Derived.Test.YtplhbklfaokjbaaDoorAwk
import Derived.Test.YtplhbklfaokjbaaDoorSumsr
namespace Go.Proofs.YtplhbklfaokjbaaDoor
open Go.RowKit
attribute [local go_sem] After.cell After.frozen After.lt After.le After.ne After.ne' After.set_eq After.size_set After.lt_add

/-- A slice of courses in memory. -/
def Crs (W : World) (B : Nat) (v : Value) (n : Nat) (f : Nat → Nat → Int) : Prop :=
  ∃ a cap, v = .slice a n cap ∧ (0 < n → ∃ b off, a = some ⟨b, off, none⟩ ∧ b < B ∧ CrCells W b off n f)
theorem Crs.on {w W : World} {v : Value} {n : Nat} {f : Nat → Nat → Int} (h : Crs w w.heap.size v n f) (hW : Below w.heap.size w W) : Crs W W.heap.size v n f := by
  obtain ⟨a, cap, rfl, h⟩ := h
  refine ⟨a, cap, rfl, fun h0 => ?_⟩
  obtain ⟨b, off, rfl, hb, hc⟩ := h h0
  exact ⟨b, off, rfl, Nat.lt_of_lt_of_le hb hW.size, hc.on hb hW⟩

theorem valid_empty (a : Option Addr) (cap : Nat) (w : World) :
    Calls Tryd.prog 17 #[.slice a 0 cap] w fun e w' => e = .returned (.bool false) ∧ Below w.heap.size w w' := by
  have HB := Lib.hid (fun w => between_any 0 1 60 w)
  rw [decide_eq_false (by unfold Btw; omega)] at HB
  go_enter Tryd.func17, Tryd.ntmps17
  (go_wp2_with fail); refine calls_after (HB.out _) ?_; intro x0
  go_wp2
  go_ret
  exact ⟨rfl, by (repeat' (first | (with_reducible exact Below.refl _ _) | (with_reducible assumption) | (with_reducible refine Below.alloc ?_ ?_ _) | (with_reducible refine Below.drew ?_) | (with_reducible refine below_drewN ?_ _) | (with_reducible refine Below.setCell ?_ ?_ _) | (with_reducible refine below_after ?_ ?_ _) | (with_reducible refine below_set ?_) | (with_reducible refine After.size_le _ ?_) | (with_reducible refine size_alloc_le ?_) | (with_reducible refine size_set_le ?_) | (with_reducible refine size_drewN_le ?_) | go_size))⟩
set_option maxRecDepth 100000 in
theorem rvalid_empty (a : Option Addr) (cap : Nat) (w : World) :
    Calls Tryd.prog 18 #[.slice a 0 cap] w fun e w' => e = .returned (.bool false) ∧ Below w.heap.size w w' := by
  have HB := Lib.hid (fun w => within_any 0 1 60 w)
  rw [decide_eq_false (by unfold Btw; omega)] at HB
  go_enter Tryd.func18, Tryd.ntmps18
  go_wp2
  go_loopw [3] (fun i wr => i = .int .i64 0 ∧ wr = w) (fun _ _ => 0)
  case atStart => exact ⟨rfl, rfl⟩
  case round =>
    obtain ⟨rfl, rfl⟩ := hrel
    (go_wp2_with fail); refine calls_after (HB.out _) ?_; intro x0
    go_wp2
    go_ret
    exact ⟨rfl, by (repeat' (first | (with_reducible exact Below.refl _ _) | (with_reducible assumption) | (with_reducible refine Below.alloc ?_ ?_ _) | (with_reducible refine Below.drew ?_) | (with_reducible refine below_drewN ?_ _) | (with_reducible refine Below.setCell ?_ ?_ _) | (with_reducible refine below_after ?_ ?_ _) | (with_reducible refine below_set ?_) | (with_reducible refine After.size_le _ ?_) | (with_reducible refine size_alloc_le ?_) | (with_reducible refine size_set_le ?_) | (with_reducible refine size_drewN_le ?_) | go_size))⟩
theorem not_good0 (f : Nat → Nat → Int) : ¬ GoodC 0 f := fun h => by have := h.1; omega
theorem csay {w : World} {v : Value} {n : Nat} {f : Nat → Nat → Int} (h : Crs w w.heap.size v n f) (hl : n ≤ 1000) : CSay w v (decide (GoodC n f)) := fun W hW => by
  obtain ⟨a, cap, rfl, hh⟩ := h.on hW
  rcases Nat.eq_zero_or_pos n with rfl | h0
  · rw [decide_eq_false (not_good0 f)]; exact valid_empty a cap W
  · obtain ⟨b, off, rfl, hb, hc⟩ := hh h0
    exact valid_any b off cap n f W hb hl hc
theorem rcsay {w : World} {v : Value} {n : Nat} {f : Nat → Nat → Int} (h : Crs w w.heap.size v n f) (hl : n ≤ 1000) : RCSay w v (decide (GoodC n f)) := fun W hW => by
  obtain ⟨a, cap, rfl, hh⟩ := h.on hW
  rcases Nat.eq_zero_or_pos n with rfl | h0
  · rw [decide_eq_false (not_good0 f)]; exact rvalid_empty a cap W
  · obtain ⟨b, off, rfl, hb, hc⟩ := hh h0
    exact rvalid_any b off cap n f W hb hl hc

/-- What a call answers in every later world. -/
def LSay (w : World) (F : FuncId) (args : Array Value) (r : Value) : Prop := ∀ W, Below w.heap.size w W → Calls Tryd.prog F args W fun e w' => e = .returned r ∧ Below W.heap.size W w'
theorem CSay.later {w W : World} {v : Value} {g : Bool} (h : CSay w v g) (hW : Below w.heap.size w W) : CSay W v g := fun V hV => h V (hW.trans (hV.mono hW.size))
theorem RCSay.later {w W : World} {v : Value} {g : Bool} (h : RCSay w v g) (hW : Below w.heap.size w W) : RCSay W v g := fun V hV => h V (hW.trans (hV.mono hW.size))

/-- What bedAt, and the reference's bedError and over, answer of any stack. -/
theorem bsay {w : World} {v : Value} {n : Nat} {f : Nat → Nat → Int} (h : Crs w w.heap.size v n f) (hl : n ≤ 1000) (i : Int) : BSay w v i (if GoodC n f then bdV f n i else zbed) (if GoodC n f then bdE n i else 1) := fun W hW => by
  have hC := (csay h hl).later hW
  obtain ⟨a, cap, rfl, hh⟩ := h.on hW
  by_cases hG : GoodC n f
  · rw [decide_eq_true hG] at hC
    rw [if_pos hG, if_pos hG]
    obtain ⟨b, off, rfl, hb, hc⟩ := hh hG.1
    exact bedAt_ok b off cap n f i W hb hc hG hC
  · rw [decide_eq_false hG] at hC
    rw [if_neg hG, if_neg hG]
    exact bedAt_bad a n cap i W hC
theorem esay {w : World} {v : Value} {n : Nat} {f : Nat → Nat → Int} (h : Crs w w.heap.size v n f) (hl : n ≤ 1000) (i p s : Int) : ESay w v i p s (if GoodC n f then beE n i p s else 1) := fun W hW => by
  have hC := (rcsay h hl).later hW
  obtain ⟨a, cap, rfl, hh⟩ := h.on hW
  by_cases hG : GoodC n f
  · rw [decide_eq_true hG] at hC
    rw [if_pos hG]
    exact bedError_ok a n cap i p s W hl hC
  · rw [decide_eq_false hG] at hC
    rw [if_neg hG]
    exact bedError_bad a n cap i p s W hC
theorem osay {w : World} {v : Value} {n : Nat} {f : Nat → Nat → Int} (h : Crs w w.heap.size v n f) (hG : GoodC n f) {i : Int} (h0 : 0 ≤ i) (hi : i < n) : OSay w v i (bI f n i.toNat) := fun W hW => by
  obtain ⟨a, cap, rfl, hh⟩ := h.on hW
  obtain ⟨b, off, rfl, hb, hc⟩ := hh hG.1
  have := over_any b off cap n f i.toNat W hb hc hG (by omega)
  rwa [show ((i.toNat : Nat) : Int) = i by omega] at this

/-- Height in both programs. -/
theorem heights {w : World} {v : Value} {n : Nat} {f : Nat → Nat → Int} (h : Crs w w.heap.size v n f) (hl : n ≤ 1000) : ∃ hN hE : Int, LSay w 15 #[v] (.tuple #[.int .i64 hN, .int .i64 hE]) ∧ LSay w 16 #[v] (.tuple #[.int .i64 hN, .int .i64 hE]) := by
  have hC := csay h hl
  have hR := rcsay h hl
  by_cases hG : GoodC n f
  · rw [decide_eq_true hG] at hC hR
    refine ⟨sumTo (fun i => f i 0) n, 0, fun W hW => ?_, fun W hW => ?_⟩
    · have hC := hC.later hW
      obtain ⟨a, cap, rfl, hh⟩ := h.on hW
      obtain ⟨b, off, rfl, hb, hc⟩ := hh hG.1
      exact height_ok b off cap n f W hb hc hG hC
    · have hR := hR.later hW
      obtain ⟨a, cap, rfl, hh⟩ := h.on hW
      obtain ⟨b, off, rfl, hb, hc⟩ := hh hG.1
      exact rheight_ok b off cap n f W hb hc hG hR
  · rw [decide_eq_false hG] at hC hR
    exact ⟨0, 1, fun W hW => height_bad v W (hC.later hW), fun W hW => rheight_bad v W (hR.later hW)⟩
/-- Weight and Centre in both programs. -/
theorem weights {w : World} {v : Value} {n : Nat} {f : Nat → Nat → Int} (h : Crs w w.heap.size v n f) (hl : n ≤ 1000) (i : Int) :
    ∃ wt e aN aD bN bD : Int, LSay w 19 #[v, .int .i64 i] (.tuple #[.int .i64 wt, .int .i64 e]) ∧ LSay w 20 #[v, .int .i64 i] (.tuple #[.int .i64 wt, .int .i64 e]) ∧
      LSay w 21 #[v, .int .i64 i] (.tuple #[.agg #[.int .i64 aN, .int .i64 aD], .agg #[.int .i64 bN, .int .i64 bD], .int .i64 e]) ∧ LSay w 22 #[v, .int .i64 i] (.tuple #[.agg #[.int .i64 aN, .int .i64 aD], .agg #[.int .i64 bN, .int .i64 bD], .int .i64 e]) := by
  have hB := bsay h hl i
  have hE := esay h hl i 0 0
  rw [beE_plain] at hE
  have later : ∀ {bv : BedV} {e : Int}, BSay w v i bv e → ∀ W, Below w.heap.size w W → BSay W v i bv e := fun hB W hW V hV => hB V (hW.trans (hV.mono hW.size))
  have laterE : ∀ {e : Int}, ESay w v i 0 0 e → ∀ W, Below w.heap.size w W → ESay W v i 0 0 e := fun hE W hW V hV => hE V (hW.trans (hV.mono hW.size))
  by_cases hok : GoodC n f ∧ 0 ≤ i ∧ i < n
  · obtain ⟨hG, h0, hi⟩ := hok
    have hO := osay h hG h0 hi
    have laterO : ∀ W, Below w.heap.size w W → OSay W v i (bI f n i.toNat) := fun W hW V hV => hO V (hW.trans (hV.mono hW.size))
    have hI := inB_bI hG (k := i.toNat) (by omega)
    rw [if_pos hG, if_pos hG, show bdV f n i = bI f n i.toNat from if_pos ⟨h0, hi⟩, show bdE n i = 0 from if_pos ⟨h0, hi⟩] at hB
    rw [if_pos hG, show bdE n i = 0 from if_pos ⟨h0, hi⟩] at hE
    obtain ⟨a, cap, rfl, _⟩ := h
    exact ⟨_, _, _, _, _, _, fun W hW => weight_any a n cap i _ _ W (later hB W hW), fun W hW => rweight_ok a n cap i _ W (laterE hE W hW) (laterO W hW), fun W hW => centre_ok a n cap i _ W (later hB W hW) hI, fun W hW => rcentre_ok a n cap i _ W (laterE hE W hW) (laterO W hW) hI⟩
  · obtain ⟨e, he, eB, eE⟩ : ∃ e : Int, (e == 0) = false ∧ BSay w v i zbed e ∧ ESay w v i 0 0 e := by
      by_cases hG : GoodC n f
      · have hno : ¬ (0 ≤ i ∧ i < n) := fun h => hok ⟨hG, h⟩
        rw [if_pos hG, if_pos hG, show bdV f n i = zbed from if_neg hno, show bdE n i = 7 from if_neg hno] at hB
        rw [if_pos hG, show bdE n i = 7 from if_neg hno] at hE
        exact ⟨7, rfl, hB, hE⟩
      · rw [if_neg hG, if_neg hG] at hB
        rw [if_neg hG] at hE
        exact ⟨1, rfl, hB, hE⟩
    obtain ⟨a, cap, rfl, _⟩ := h
    exact ⟨0, e, 0, 0, 0, 0, fun W hW => weight_any a n cap i _ _ W (later eB W hW), fun W hW => rweight_err a n cap i e W (laterE eE W hW) he, fun W hW => centre_err a n cap i _ e W (later eB W hW) he, fun W hW => rcentre_err a n cap i e W (laterE eE W hW) he⟩
end Go.Proofs.YtplhbklfaokjbaaDoor
