/- What a text of a survey says: the marks that are read, and where the reading stops. -/
import Derived.Test.YtldopcneellfbaaGreatDoorNumbs
import Derived.Test.YtldopcneellfbaaGreatDoorMko
namespace Go.Proofs.YtldopcneellfbaaGreatDoor
open Go.RowKit

/-- The three words of a mark's line. -/
def threeW (h e n : Int) : List (List UInt8) := [Lib.itoa h, Lib.itoa e, Lib.itoa n]
/-- The first k lines are marks f that may follow one another. -/
def PGood (ls : List (List UInt8)) (k : Nat) (f : Nat → Nat → Int) : Prop := k ≤ 40 ∧ ∀ i, i < k → OkM f i ∧ ∃ t, ls[i]? = some t ∧ wordsL 32 t = threeW (f i 0) (f i 1) (f i 2)
/-- Line k is no mark that may follow. -/
def NoLine (ls : List (List UInt8)) (k : Nat) (f : Nat → Nat → Int) : Prop := ∀ t, ls[k]? = some t → ∀ h e n, wordsL 32 t = threeW h e n → ¬ FolM k (f (k - 1) 0) h e n
/-- Where the reading ends: all lines are marks, or line k is not. -/
def Whole (ls : List (List UInt8)) (k : Nat) (f : Nat → Nat → Int) : Prop := PGood ls k f ∧ ls.length = k + 1 ∧ 1 ≤ k ∧ ls[k]? = some []
def Stops (ls : List (List UInt8)) (k : Nat) (f : Nat → Nat → Int) : Prop := PGood ls k f ∧ ((k + 1 < ls.length ∧ NoLine ls k f) ∨ (ls.length = k + 1 ∧ (k = 0 ∨ ls[k]? ≠ some [])))
def putM (f : Nat → Nat → Int) (k : Nat) (h e n : Int) : Nat → Nat → Int := fun i j => if i = k then (if j = 0 then h else if j = 1 then e else n) else f i j
theorem putM_old {f : Nat → Nat → Int} {k i : Nat} (h e n : Int) (hi : i ≠ k) : putM f k h e n i = f i := by funext j; simp [putM, hi]
theorem putM_new (f : Nat → Nat → Int) (k : Nat) (h e n : Int) : putM f k h e n k 0 = h ∧ putM f k h e n k 1 = e ∧ putM f k h e n k 2 = n := ⟨by simp [putM], by simp [putM], by simp [putM]⟩
theorem putM_ok {f : Nat → Nat → Int} {k i : Nat} (h e n : Int) (hi : i < k) : OkM (putM f k h e n) i ↔ OkM f i := by
  unfold OkM
  rw [putM_old h e n (by omega), putM_old h e n (by omega)]
theorem putM_fol {f : Nat → Nat → Int} {k : Nat} (h e n : Int) : FolM k (f (k - 1) 0) h e n ↔ k < 40 ∧ OkM (putM f k h e n) k := by
  unfold FolM OkM
  obtain ⟨p0, p1, p2⟩ := putM_new f k h e n
  rw [p0, p1, p2]
  rcases Nat.eq_zero_or_pos k with rfl | hk
  · simp
  · rw [putM_old h e n (by omega : k - 1 ≠ k)]
theorem putM_good {f : Nat → Nat → Int} {k : Nat} (h e n : Int) (hg : ∀ i, i < k → OkM f i) : GoodM (k + 1) (putM f k h e n) ↔ FolM k (f (k - 1) 0) h e n := by
  rw [putM_fol]
  constructor
  · intro ⟨_, h2, h3⟩
    exact ⟨by omega, h3 k (by omega)⟩
  · intro ⟨h1, h2⟩
    refine ⟨by omega, by omega, fun i hi => ?_⟩
    rcases Nat.lt_or_ge i k with h4 | h4
    · exact (putM_ok h e n h4).2 (hg i h4)
    · rw [show i = k by omega]; exact h2
theorem PGood.put {ls : List (List UInt8)} {k : Nat} {f : Nat → Nat → Int} {t : List UInt8} {h e n : Int} (hp : PGood ls k f) (ht : ls[k]? = some t) (hw : wordsL 32 t = threeW h e n) (hf : FolM k (f (k - 1) 0) h e n) : PGood ls (k + 1) (putM f k h e n) := by
  have h1 := (putM_fol h e n).1 hf
  refine ⟨by omega, fun i hi => ?_⟩
  rcases Nat.lt_or_ge i k with h4 | h4
  · obtain ⟨a, b⟩ := hp.2 i h4
    refine ⟨(putM_ok h e n h4).2 a, ?_⟩
    rw [putM_old h e n (by omega)]
    exact b
  · obtain rfl : i = k := by omega
    obtain ⟨p0, p1, p2⟩ := putM_new f i h e n
    rw [p0, p1, p2]
    exact ⟨h1.2, t, ht, hw⟩
theorem mcs_congr {f g : Nat → Nat → Int} : ∀ {k : Nat}, (∀ i, i < k → f i = g i) → mcs k f = mcs k g
  | 0, _ => rfl
  | k + 1, h => by rw [mcs_succ, mcs_succ, mcs_congr fun i hi => h i (by omega), h k (by omega)]
theorem mcs_put {f : Nat → Nat → Int} {k : Nat} (h e n : Int) : mcs (k + 1) (putM f k h e n) = mcs k f ++ [.int .i64 h, .int .i64 e, .int .i64 n] := by
  obtain ⟨p0, p1, p2⟩ := putM_new f k h e n
  rw [mcs_succ, p0, p1, p2]
  rw [mcs_congr fun i hi => putM_old h e n (by omega : i ≠ k)]
theorem in18_of {p h e n : Int} {k : Nat} (hf : FolM k p h e n) : In18 h ∧ In18 e ∧ In18 n := by
  unfold FolM InMk at hf
  unfold In18
  omega
theorem itoa_inj {a b : Int} (ha : In18 a) (h : Lib.itoa a = Lib.itoa b) (hb : In18 b) : a = b := by
  have h1 := (read_back ha rfl).2.2.2
  have h2 := (read_back hb rfl).2.2.2
  rw [← h1, ← h2, h]

/-- Two readings agree. -/
theorem pgood_same {ls : List (List UInt8)} {k k' : Nat} {f f' : Nat → Nat → Int} (h : PGood ls k f) (h' : PGood ls k' f') {i : Nat} (hi : i < k) (hi' : i < k') : f i 0 = f' i 0 ∧ f i 1 = f' i 1 ∧ f i 2 = f' i 2 := by
  obtain ⟨⟨a, _⟩, t, b, c⟩ := h.2 i hi
  obtain ⟨⟨a', _⟩, t', b', c'⟩ := h'.2 i hi'
  rw [b] at b'
  cases b'
  rw [c] at c'
  unfold threeW at c'
  simp only [List.cons.injEq, and_true] at c'
  unfold InMk at a a'
  exact ⟨itoa_inj (by unfold In18; omega) c'.1 (by unfold In18; omega), itoa_inj (by unfold In18; omega) c'.2.1 (by unfold In18; omega), itoa_inj (by unfold In18; omega) c'.2.2 (by unfold In18; omega)⟩
theorem pgood_len {ls : List (List UInt8)} {k : Nat} {f : Nat → Nat → Int} (h : PGood ls k f) : k ≤ ls.length := by
  rcases Nat.eq_zero_or_pos k with rfl | hk
  · omega
  · obtain ⟨_, t, b, _⟩ := h.2 (k - 1) (by omega)
    have := (List.getElem?_eq_some_iff.1 b).1
    omega
theorem no_further {ls : List (List UInt8)} {k k' : Nat} {f f' : Nat → Nat → Int} (h : PGood ls k f) (hn : NoLine ls k f) (h' : PGood ls k' f') (hlt : k < k') : False := by
  obtain ⟨ho, t, b, c⟩ := h'.2 k hlt
  refine hn t b _ _ _ c ?_
  refine ⟨by have := h'.1; omega, ho.1, fun h0 => ?_⟩
  rw [(pgood_same h h' (i := k - 1) (by omega) (by omega)).1]
  exact ho.2 h0
theorem stops_same {ls : List (List UInt8)} {k k' : Nat} {f f' : Nat → Nat → Int} (h : Stops ls k f) (h' : Stops ls k' f') : k = k' := by
  obtain ⟨h1, h2⟩ := h
  obtain ⟨h1', h2'⟩ := h'
  rcases Nat.lt_trichotomy k k' with hlt | e | hlt
  · rcases h2 with ⟨_, hn⟩ | ⟨he, _⟩
    · exact (no_further h1 hn h1' hlt).elim
    · rcases h2' with ⟨hl, _⟩ | ⟨hl, _⟩ <;> omega
  · exact e
  · rcases h2' with ⟨_, hn⟩ | ⟨he, _⟩
    · exact (no_further h1' hn h1 hlt).elim
    · rcases h2 with ⟨hl, _⟩ | ⟨hl, _⟩ <;> omega
theorem whole_stops {ls : List (List UInt8)} {k k' : Nat} {f f' : Nat → Nat → Int} (h : Whole ls k f) (h' : Stops ls k' f') : False := by
  obtain ⟨h1, h2, h3, h4⟩ := h
  obtain ⟨h1', ⟨hl, hn⟩ | ⟨hl, h0⟩⟩ := h'
  · exact no_further h1' hn h1 (by omega)
  · obtain rfl : k = k' := by omega
    rcases h0 with h0 | h0
    · omega
    · exact h0 h4
end Go.Proofs.YtldopcneellfbaaGreatDoor
