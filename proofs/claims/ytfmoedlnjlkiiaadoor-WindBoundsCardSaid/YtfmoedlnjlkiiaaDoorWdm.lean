/- Wind as mathematics: for how long work waits, where it goes, and the spans of minutes. -/
import Derived.Test.YtfmoedlnjlkiiaaDoorProg
namespace Go.Proofs.YtfmoedlnjlkiiaaDoor

/-- For how many calm minutes work waits behind a minute with a gust. -/
def nxW (s g c w x : Int) : Int := if w = 0 then (if x = -1 ∨ s ≤ x then c else 0) else (if x = -1 ∨ g ≤ x then c else w - 1)
def wt (s g c : Int) (f : Nat → Int) : Nat → Int
  | 0 => 0
  | k + 1 => nxW s g c (wt s g c f k) (f k)
/-- Work goes in a minute. -/
def gW (s g c : Int) (f : Nat → Int) (k : Nat) : Bool := decide (wt s g c f k = 0) && decide (wt s g c f (k + 1) = 0)
theorem wt_bd {s g c : Int} (hc : 1 ≤ c) (f : Nat → Int) : ∀ k, 0 ≤ wt s g c f k ∧ wt s g c f k ≤ c
  | 0 => by unfold wt; omega
  | k + 1 => by
    have ih := wt_bd (s := s) (g := g) hc f k
    show 0 ≤ nxW _ _ _ _ _ ∧ nxW _ _ _ _ _ ≤ c
    unfold nxW
    split <;> split <;> omega
/-- The state that the reference keeps: -1 if work goes, otherwise the calm minutes in a row. -/
def stW (c w : Int) : Int := if w = 0 then -1 else c - w
theorem stW_next {s g c w x : Int} (hc : 1 ≤ c) (hw : 0 ≤ w ∧ w ≤ c) (hx : -1 ≤ x) :
    stW c (nxW s g c w x) = (if stW c w < 0 then (if x < 0 ∨ s ≤ x then 0 else -1) else (if x < 0 ∨ g ≤ x then 0 else if stW c w + 1 = c then -1 else stW c w + 1)) := by
  unfold stW nxW
  by_cases h0 : w = 0
  · subst h0
    simp only [if_true]
    by_cases h1 : x = -1 ∨ s ≤ x
    · rw [if_pos h1, if_neg (by omega), if_pos (by omega), if_pos (by omega)]; omega
    · rw [if_neg h1, if_pos rfl, if_pos (by omega), if_neg (by omega)]
  · simp only [if_neg h0]
    by_cases h1 : x = -1 ∨ g ≤ x
    · rw [if_pos h1, if_neg (by omega), if_neg (by omega), if_pos (by omega)]; omega
    · rw [if_neg h1, if_neg (by omega : ¬ c - w < 0), if_neg (by omega : ¬ (x < 0 ∨ g ≤ x))]
      by_cases h2 : w = 1
      · subst h2
        rw [if_pos (by omega), if_pos (by omega)]
      · rw [if_neg (by omega), if_neg (by omega)]; omega
/-- The reference's state behind a minute, and whether work goes in it. -/
theorem gW_state {s g c : Int} {f : Nat → Int} {k : Nat} (hc : 1 ≤ c) (hx : -1 ≤ f k) : gW s g c f k = (decide (stW c (wt s g c f k) < 0) && !decide (f k < 0 ∨ s ≤ f k)) := by
  have hb := wt_bd (s := s) (g := g) hc f k
  show (decide (wt s g c f k = 0) && decide (nxW s g c (wt s g c f k) (f k) = 0)) = _
  unfold stW nxW
  by_cases h0 : wt s g c f k = 0
  · simp only [h0, if_true, decide_true, Bool.true_and]
    by_cases h1 : f k = -1 ∨ s ≤ f k
    · rw [if_pos h1, decide_eq_true (show f k < 0 ∨ s ≤ f k by omega), decide_eq_false (by omega)]; rfl
    · rw [if_neg h1, decide_eq_false (show ¬ (f k < 0 ∨ s ≤ f k) by omega)]; rfl
  · simp only [if_neg h0, decide_eq_false h0, decide_eq_false (show ¬ (c - wt s g c f k < 0) by omega), Bool.false_and]

/-- A further minute, behind spans. -/
def addS (l : List (Int × Int)) (k : Nat) : List (Int × Int) :=
  match l.getLast? with
  | some p => if p.2 = k then l.dropLast ++ [(p.1, (k : Int) + 1)] else l ++ [((k : Int), (k : Int) + 1)]
  | none => [((k : Int), (k : Int) + 1)]
/-- The spans of minutes. -/
def spS (xs : List Nat) : List (Int × Int) := xs.foldl addS []
/-- The minutes, of n, that are so. -/
def fl (p : Nat → Bool) (n : Nat) : List Nat := (List.range n).filter p
theorem fl_zero (p : Nat → Bool) : fl p 0 = [] := rfl
theorem fl_succ (p : Nat → Bool) (n : Nat) : fl p (n + 1) = if p n then fl p n ++ [n] else fl p n := by
  unfold fl
  rw [List.range_succ, List.filter_append]
  by_cases h : p n = true <;> simp [h]
theorem spS_snoc (xs : List Nat) (k : Nat) : spS (xs ++ [k]) = addS (spS xs) k := by unfold spS; rw [List.foldl_append]; rfl
theorem addS_len (l : List (Int × Int)) (k : Nat) : (addS l k).length ≤ l.length + 1 := by
  unfold addS
  split
  · split
    · simp only [List.length_append, List.length_dropLast, List.length_singleton]; omega
    · simp
  · simp
theorem spS_len (xs : List Nat) : (spS xs).length ≤ xs.length := by
  have key : ∀ (xs : List Nat) (l : List (Int × Int)), (xs.foldl addS l).length ≤ l.length + xs.length := by
    intro xs
    induction xs with
    | nil => intro l; simp
    | cons x xs ih => intro l; have := ih (addS l x); have := addS_len l x; simp only [List.foldl_cons, List.length_cons]; omega
  have := key xs []
  rw [List.length_nil, Nat.zero_add] at this
  exact this
theorem fl_len (p : Nat → Bool) (n : Nat) : (fl p n).length ≤ n := by
  have := List.length_filter_le p (List.range n)
  rw [List.length_range] at this
  exact this
theorem fl_lt {p : Nat → Bool} {n k : Nat} (h : k ∈ fl p n) : k < n ∧ p k = true := by
  unfold fl at h
  rw [List.mem_filter, List.mem_range] at h
  exact h
end Go.Proofs.YtfmoedlnjlkiiaaDoor
