/- What Turned and Shifted answer of any stack, in both programs. -/
import Derived.Test.YtplhbklfaokjbaaDoorTurnc
import Derived.Test.YtplhbklfaokjbaaDoorRturnc
import Derived.Test.YtplhbklfaokjbaaDoorRshift
namespace Go.Proofs.YtplhbklfaokjbaaDoor
open Go.RowKit

/-- A call that answers courses of its own and an error, in every later world. -/
def CQSay (w : World) (F : FuncId) (args : Array Value) (n : Nat) (f : Nat → Nat → Int) (e : Int) : Prop := ∀ W, Below w.heap.size w W → Calls Tryd.prog F args W fun r w' => ∃ v, r = .returned (.tuple #[v, .int .i64 e]) ∧ CRow w' W.heap.size v n f ∧ Below W.heap.size W w'
theorem CQSay.on {w W : World} {F : FuncId} {args : Array Value} {n : Nat} {f : Nat → Nat → Int} {e : Int} (h : CQSay w F args n f e) (hW : Below w.heap.size w W) : CQSay W F args n f e := fun V hV => h V (hW.trans (hV.mono hW.size))
theorem cq_none {w : World} {F : FuncId} {args : Array Value} {e : Int} (h : ∀ W, Below w.heap.size w W → Calls Tryd.prog F args W fun r w' => r = .returned (.tuple #[.slice none 0 0, .int .i64 e]) ∧ Below W.heap.size W w') (f : Nat → Nat → Int) : CQSay w F args 0 f e := fun W hB =>
  (h W hB).mono fun _ _ ⟨h1, h2⟩ => ⟨_, h1, crow_nil _ _ _, h2⟩

theorem turned_good {w : World} {a : Option Addr} {n cap : Nat} {f : Nat → Nat → Int} (h : Crs w w.heap.size (.slice a n cap) n f) (hG : GoodC n f) (q : Int) (q1 : -9223372036854775808 ≤ q) (q2 : q ≤ 9223372036854775807) :
    CQSay w 49 #[.slice a n cap, .int .i64 q] n (rotN f (q % 4).toNat) 0 ∧ CQSay w 50 #[.slice a n cap, .int .i64 q] n (rotN f (q % 4).toNat) 0 := by
  have h60 := hG.2.1
  have h1 := hG.1
  have hC := csay h (by omega)
  have hR := rcsay h (by omega)
  rw [decide_eq_true hG] at hC hR
  obtain ⟨a', cap', e1, hc⟩ := h
  cases e1
  obtain ⟨b, off, rfl, hb, hc⟩ := hc h1
  refine ⟨fun W hB => (turned_ok b off cap n f q W (Nat.lt_of_lt_of_le hb hB.size) h1 h60 (hc.on hb hB) hG.bd q1 q2 (hC.later hB)).mono ?_, fun W hB => (rturned_ok b off cap n f q W (Nat.lt_of_lt_of_le hb hB.size) h1 h60 (hc.on hb hB) hG.bd (hR.later hB)).mono ?_⟩
  all_goals
    rintro e w' ⟨v, rfl, h2, h3⟩
    exact ⟨v, rfl, h2.row, h3⟩
theorem turned_wrong {w : World} {v : Value} {n : Nat} {f : Nat → Nat → Int} (h : Crs w w.heap.size v n f) (hl : n ≤ 1000) (hG : ¬ GoodC n f) (q : Int) :
    CQSay w 49 #[v, .int .i64 q] 0 f 1 ∧ CQSay w 50 #[v, .int .i64 q] 0 f 1 := by
  have hC := csay h hl
  have hR := rcsay h hl
  rw [decide_eq_false hG] at hC hR
  exact ⟨cq_none (fun W hB => turned_bad v q W (hC.later hB)) f, cq_none (fun W hB => rturned_bad v q W (hR.later hB)) f⟩
theorem turneds {w : World} {a : Option Addr} {n cap : Nat} {f : Nat → Nat → Int} (h : Crs w w.heap.size (.slice a n cap) n f) (hl : n ≤ 1000) (q : Int) (q1 : -9223372036854775808 ≤ q) (q2 : q ≤ 9223372036854775807) :
    ∃ m g e, m ≤ 60 ∧ CQSay w 49 #[.slice a n cap, .int .i64 q] m g e ∧ CQSay w 50 #[.slice a n cap, .int .i64 q] m g e := by
  by_cases hG : GoodC n f
  · exact ⟨_, _, _, hG.2.1, turned_good h hG q q1 q2⟩
  · exact ⟨_, _, _, by omega, turned_wrong h hl hG q⟩

theorem shifted_good {w : World} {a : Option Addr} {n cap : Nat} {f : Nat → Nat → Int} (h : Crs w w.heap.size (.slice a n cap) n f) (hG : GoodC n f) (x y : Int) (hs : ShIn x y) (hO : ShOk n f x y) :
    CQSay w 51 #[.slice a n cap, .int .i64 x, .int .i64 y] n (shC f x y) 0 ∧ CQSay w 52 #[.slice a n cap, .int .i64 x, .int .i64 y] n (shC f x y) 0 := by
  have h60 := hG.2.1
  have h1 := hG.1
  have hC := csay h (by omega)
  have hR := rcsay h (by omega)
  rw [decide_eq_true hG] at hC hR
  obtain ⟨a', cap', e1, hc⟩ := h
  cases e1
  obtain ⟨b, off, rfl, hb, hc⟩ := hc h1
  refine ⟨fun W hB => (shifted_ok b off cap n f x y W (Nat.lt_of_lt_of_le hb hB.size) h1 h60 (hc.on hb hB) hG.bd hs (hC.later hB)).mono ?_, fun W hB => (rshifted_ok b off cap n f x y W (Nat.lt_of_lt_of_le hb hB.size) h1 h60 (hc.on hb hB) hG hs (hR.later hB)).mono ?_⟩
  all_goals
    rintro e w' ⟨⟨_, v, rfl, h2⟩ | ⟨h2, _⟩, h3⟩
    · exact ⟨v, rfl, h2.row, h3⟩
    · exact absurd hO h2
theorem shifted_wrong {w : World} {a : Option Addr} {n cap : Nat} {f : Nat → Nat → Int} (h : Crs w w.heap.size (.slice a n cap) n f) (hl : n ≤ 1000) (x y : Int) (hno : ¬ (GoodC n f ∧ ShIn x y ∧ ShOk n f x y)) :
    ∃ e : Int, (e == 0) = false ∧ CQSay w 51 #[.slice a n cap, .int .i64 x, .int .i64 y] 0 f e ∧ CQSay w 52 #[.slice a n cap, .int .i64 x, .int .i64 y] 0 f e := by
  have hC := csay h hl
  have hR := rcsay h hl
  by_cases hG : GoodC n f
  · rw [decide_eq_true hG] at hC hR
    by_cases hs : ShIn x y
    · have hO : ¬ ShOk n f x y := fun h => hno ⟨hG, hs, h⟩
      have h60 := hG.2.1
      have h1 := hG.1
      obtain ⟨a', cap', e1, hc⟩ := h
      cases e1
      obtain ⟨b, off, rfl, hb, hc⟩ := hc h1
      refine ⟨4, rfl, cq_none (fun W hB => (shifted_ok b off cap n f x y W (Nat.lt_of_lt_of_le hb hB.size) h1 h60 (hc.on hb hB) hG.bd hs (hC.later hB)).mono ?_) f, cq_none (fun W hB => (rshifted_ok b off cap n f x y W (Nat.lt_of_lt_of_le hb hB.size) h1 h60 (hc.on hb hB) hG hs (hR.later hB)).mono ?_) f⟩
      all_goals
        rintro e w' ⟨⟨h2, _⟩ | ⟨_, h2⟩, h3⟩
        · exact absurd h2 hO
        · exact ⟨h2, h3⟩
    · exact ⟨7, rfl, cq_none (fun W hB => shifted_far _ x y W (hC.later hB) hs) f, cq_none (fun W hB => rshifted_far _ x y W (hR.later hB) hs) f⟩
  · rw [decide_eq_false hG] at hC hR
    exact ⟨1, rfl, cq_none (fun W hB => shifted_bad _ x y W (hC.later hB)) f, cq_none (fun W hB => rshifted_bad _ x y W (hR.later hB)) f⟩
theorem shifteds {w : World} {a : Option Addr} {n cap : Nat} {f : Nat → Nat → Int} (h : Crs w w.heap.size (.slice a n cap) n f) (hl : n ≤ 1000) (x y : Int) :
    ∃ m g e, m ≤ 60 ∧ CQSay w 51 #[.slice a n cap, .int .i64 x, .int .i64 y] m g e ∧ CQSay w 52 #[.slice a n cap, .int .i64 x, .int .i64 y] m g e := by
  by_cases hok : GoodC n f ∧ ShIn x y ∧ ShOk n f x y
  · exact ⟨_, _, _, hok.1.2.1, shifted_good h hok.1 x y hok.2.1 hok.2.2⟩
  · obtain ⟨e, -, h1⟩ := shifted_wrong h hl x y hok
    exact ⟨_, _, e, by omega, h1⟩
end Go.Proofs.YtplhbklfaokjbaaDoor
