/- What Added, Cut and Split answer of any stack, in both programs. -/
import Derived.Test.YtplhbklfaokjbaaDoorMoves
import Derived.Test.YtplhbklfaokjbaaDoorRadd
import Derived.Test.YtplhbklfaokjbaaDoorSplitq
import Derived.Test.YtplhbklfaokjbaaDoorRsplitq
import Derived.Test.YtplhbklfaokjbaaDoorRsplit
namespace Go.Proofs.YtplhbklfaokjbaaDoor
open Go.RowKit

/-- A slice of courses has its courses within its room. -/
def RoomC (v : Value) (n : Nat) : Prop := ∀ a cap, v = .slice a n cap → 0 < n → n ≤ cap ∧ cap ≤ 9223372036854775807
theorem cq_own {w : World} {F : FuncId} {args : Array Value} {n : Nat} {f : Nat → Nat → Int} (h : ∀ W, Below w.heap.size w W → Calls Tryd.prog F args W fun r w' => ∃ v, r = .returned (.tuple #[v, .int .i64 0]) ∧ CrOwn w' W.heap.size v n f ∧ Below W.heap.size W w') : CQSay w F args n f 0 := fun W hB =>
  (h W hB).mono fun _ _ ⟨v, h1, h2, h3⟩ => ⟨v, h1, h2.row, h3⟩
theorem addeds {w : World} {a : Option Addr} {n cap : Nat} {f : Nat → Nat → Int} (h : Crs w w.heap.size (.slice a n cap) n f) (hl : n ≤ 1000) (c : Nat → Int) :
    ∃ m g e, m ≤ 61 ∧ CQSay w 42 #[.slice a n cap, cV c] m g e ∧ CQSay w 43 #[.slice a n cap, cV c] m g e := by
  have hC := csay h hl
  have hR := rcsay h hl
  by_cases hok : GoodC n f ∧ OkV c
  · obtain ⟨hG, hO⟩ := hok
    rw [decide_eq_true hG] at hC hR
    have h60 := hG.2.1
    have h1 := hG.1
    by_cases hn : n = 60
    · subst hn
      exact ⟨0, f, 4, by omega, cq_none (fun W hB => added_full a cap c W (hC.later hB) hO) f, cq_none (fun W hB => radded_full a cap c W (hR.later hB) hO) f⟩
    · obtain ⟨a', cap', e1, hc⟩ := h
      cases e1
      obtain ⟨b, off, rfl, hb, hc⟩ := hc h1
      exact ⟨n + 1, adC n f c, 0, by omega, cq_own fun W hB => added_ok b off cap n f c W (Nat.lt_of_lt_of_le hb hB.size) (by omega) (hc.on hb hB) (hC.later hB) hO,
        cq_own fun W hB => radded_ok b off cap n f c W (Nat.lt_of_lt_of_le hb hB.size) (by omega) h1 (hc.on hb hB) (hR.later hB) hO⟩
  · have hg : decide (GoodC n f) = false ∨ (decide (GoodC n f) = true ∧ ¬ OkV c) := by
      by_cases hG : GoodC n f
      · exact .inr ⟨decide_eq_true hG, fun h => hok ⟨hG, h⟩⟩
      · exact .inl (decide_eq_false hG)
    exact ⟨0, f, 1, by omega, cq_none (fun W hB => added_bad _ c _ W (hC.later hB) hg) f, cq_none (fun W hB => radded_bad _ c _ W (hR.later hB) hg) f⟩
theorem cuts {w : World} {a : Option Addr} {n cap : Nat} {f : Nat → Nat → Int} (h : Crs w w.heap.size (.slice a n cap) n f) (hr : RoomC (.slice a n cap) n) (hl : n ≤ 1000) (m : Int) :
    ∃ p g e, p ≤ 61 ∧ CQSay w 45 #[.slice a n cap, .int .i64 m] p g e ∧ CQSay w 46 #[.slice a n cap, .int .i64 m] p g e := by
  have hC := csay h hl
  have hR := rcsay h hl
  by_cases hG : GoodC n f
  · rw [decide_eq_true hG] at hC hR
    have h60 := hG.2.1
    have h1 := hG.1
    by_cases hm : Btw m 1 n
    · obtain ⟨m, rfl⟩ := Int.eq_ofNat_of_zero_le (show 0 ≤ m by unfold Btw at hm; omega)
      unfold Btw at hm
      obtain ⟨r1, r2⟩ := hr a cap rfl h1
      obtain ⟨a', cap', e1, hc⟩ := h
      cases e1
      obtain ⟨b, off, rfl, hb, hc⟩ := hc h1
      exact ⟨m, f, 0, by omega, cq_own fun W hB => cut_ok b off cap n m f W (Nat.lt_of_lt_of_le hb hB.size) h60 r1 (hc.on hb hB) (by omega) (by omega) (hC.later hB),
        cq_own fun W hB => rcut_ok b off cap n m f W (Nat.lt_of_lt_of_le hb hB.size) h60 r1 (hc.on hb hB) (by omega) (by omega) (hR.later hB)⟩
    · exact ⟨0, f, 7, by omega, cq_none (fun W hB => cut_far a n cap m W (hC.later hB) hm) f, cq_none (fun W hB => rcut_far a n cap m W (hR.later hB) hm) f⟩
  · rw [decide_eq_false hG] at hC hR
    exact ⟨0, f, 1, by omega, cq_none (fun W hB => cut_bad _ m W (hC.later hB)) f, cq_none (fun W hB => rcut_bad _ m W (hR.later hB)) f⟩
/-- A course that can be divided so. -/
def SpOk (n : Nat) (f : Nat → Nat → Int) (k t : Int) : Prop := GoodC n f ∧ 0 ≤ k ∧ k < n ∧ 1 ≤ t ∧ t ≤ f k.toNat 0 - 1 ∧ loW f k.toNat t ≠ 0 ∧ n ≠ 60
theorem split_good {w : World} {a : Option Addr} {n cap : Nat} {f : Nat → Nat → Int} (h : Crs w w.heap.size (.slice a n cap) n f) (hr : RoomC (.slice a n cap) n) (k : Nat) (t : Int) (hok : SpOk n f k t) :
    CQSay w 47 #[.slice a n cap, .int .i64 (k : Nat), .int .i64 t] (n + 1) (spC f k t) 0 ∧ CQSay w 48 #[.slice a n cap, .int .i64 (k : Nat), .int .i64 t] (n + 1) (spC f k t) 0 := by
  obtain ⟨hG, h0, hk, h1, h2, h3, h4⟩ := hok
  simp only [Int.toNat_natCast] at h2 h3
  have h60 := hG.2.1
  have hn := hG.1
  have hC := csay h (by omega)
  have hR := rcsay h (by omega)
  rw [decide_eq_true hG] at hC hR
  obtain ⟨r1, r2⟩ := hr a cap rfl hn
  obtain ⟨a', cap', e1, hc⟩ := h
  cases e1
  obtain ⟨b, off, rfl, hb, hc⟩ := hc hn
  exact ⟨cq_own fun W hB => split_ok b off cap n f k t W (Nat.lt_of_lt_of_le hb hB.size) (by omega) r1 r2 (hc.on hb hB) (by omega) (hG.2.2 k (by omega)) h1 h2 h3 (hC.later hB),
    cq_own fun W hB => rsplit_ok b off cap n f k t W (Nat.lt_of_lt_of_le hb hB.size) (by omega) (hc.on hb hB) (by omega) (hG.2.2 k (by omega)) h1 h2 h3 (hR.later hB)⟩
theorem split_wrong {w : World} {a : Option Addr} {n cap : Nat} {f : Nat → Nat → Int} (h : Crs w w.heap.size (.slice a n cap) n f) (hl : n ≤ 1000) (k t : Int) (hno : ¬ SpOk n f k t) :
    ∃ e : Int, (e == 0) = false ∧ CQSay w 47 #[.slice a n cap, .int .i64 k, .int .i64 t] 0 f e ∧ CQSay w 48 #[.slice a n cap, .int .i64 k, .int .i64 t] 0 f e := by
  have hC := csay h hl
  have hR := rcsay h hl
  by_cases hG : GoodC n f
  · rw [decide_eq_true hG] at hC hR
    have h60 := hG.2.1
    have h1 := hG.1
    by_cases hk : 0 ≤ k ∧ k < n
    · obtain ⟨k, rfl⟩ := Int.eq_ofNat_of_zero_le hk.1
      have hk' : k < n := by omega
      have hO := hG.2.2 k hk'
      obtain ⟨a', cap', e1, hc⟩ := h
      cases e1
      obtain ⟨b, off, rfl, hb, hc⟩ := hc h1
      by_cases ht : 1 ≤ t ∧ t ≤ f k 0 - 1
      · by_cases hz : loW f k t = 0
        · exact ⟨10, rfl, cq_none (fun W hB => split_zero b off cap n f k t W (Nat.lt_of_lt_of_le hb hB.size) (hc.on hb hB) h60 hk' hO ht.1 ht.2 hz (hC.later hB)) f, cq_none (fun W hB => rsplit_zero b off cap n f k t W (Nat.lt_of_lt_of_le hb hB.size) (hc.on hb hB) h60 hk' hO ht.1 ht.2 hz (hR.later hB)) f⟩
        · have hn : n = 60 := by
            by_cases hn : n = 60
            · exact hn
            · exact absurd ⟨hG, hk.1, hk.2, ht.1, by simpa using ht.2, by simpa using hz, hn⟩ hno
          exact ⟨4, rfl, cq_none (fun W hB => split_full b off cap n f k t W (Nat.lt_of_lt_of_le hb hB.size) (hc.on hb hB) h60 hk' hO ht.1 ht.2 hz hn (hC.later hB)) f, cq_none (fun W hB => rsplit_full b off cap n f k t W (Nat.lt_of_lt_of_le hb hB.size) (hc.on hb hB) h60 hk' hO ht.1 ht.2 hz hn (hR.later hB)) f⟩
      · exact ⟨7, rfl, cq_none (fun W hB => split_off b off cap n f k t W (Nat.lt_of_lt_of_le hb hB.size) h60 (hc.on hb hB) hk' hO ht (hC.later hB)) f, cq_none (fun W hB => rsplit_off b off cap n f k t W (Nat.lt_of_lt_of_le hb hB.size) h60 (hc.on hb hB) hk' hO ht (hR.later hB)) f⟩
    · exact ⟨7, rfl, cq_none (fun W hB => split_far a n cap k t W h60 h1 hk (hC.later hB)) f, cq_none (fun W hB => rsplit_far a n cap k t W h60 h1 hk (hR.later hB)) f⟩
  · rw [decide_eq_false hG] at hC hR
    exact ⟨1, rfl, cq_none (fun W hB => split_bad _ k t W (hC.later hB)) f, cq_none (fun W hB => rsplit_bad _ k t W (hR.later hB)) f⟩
theorem splits {w : World} {a : Option Addr} {n cap : Nat} {f : Nat → Nat → Int} (h : Crs w w.heap.size (.slice a n cap) n f) (hr : RoomC (.slice a n cap) n) (hl : n ≤ 1000) (k t : Int) :
    ∃ m g e, m ≤ 61 ∧ CQSay w 47 #[.slice a n cap, .int .i64 k, .int .i64 t] m g e ∧ CQSay w 48 #[.slice a n cap, .int .i64 k, .int .i64 t] m g e := by
  by_cases hok : SpOk n f k t
  · obtain ⟨k, rfl⟩ := Int.eq_ofNat_of_zero_le hok.2.1
    exact ⟨_, _, _, by have := hok.1.2.1; omega, split_good h hr k t hok⟩
  · obtain ⟨e, -, h1⟩ := split_wrong h hl k t hok
    exact ⟨_, _, e, by omega, h1⟩
end Go.Proofs.YtplhbklfaokjbaaDoor
