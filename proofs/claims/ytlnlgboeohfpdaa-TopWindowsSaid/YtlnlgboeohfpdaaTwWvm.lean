/- Windows of a forecast: the mathematics. -/
import Derived.Test.YtlnlgboeohfpdaaTwWdkp
namespace Go.Proofs.Ytlnlgboeohfpdaa.Tw
open Go.Proofs.Ytlnlgboeohfpdaa

/-- The first minute v of n fine ones in a row, or none. -/
def WAns (g : Int → Prop) (n fr to : Int) (e v : Int) : Prop :=
  (e = 0 ∧ fr ≤ v ∧ v + n ≤ to ∧ (∀ m, v ≤ m → m < v + n → g m) ∧ ∀ u, fr ≤ u → u + n ≤ to → (∀ m, u ≤ m → m < u + n → g m) → v ≤ u) ∨
  (e = 8 ∧ v = 0 ∧ ∀ u, fr ≤ u → u + n ≤ to → ¬ ∀ m, u ≤ m → m < u + n → g m)
theorem WAns.one {g g' : Int → Prop} {n fr to e v e' v' : Int} (h : WAns g n fr to e v) (h' : WAns g' n fr to e' v') (hg : ∀ m, fr ≤ m → m < to → (g m ↔ g' m)) : e = e' ∧ v = v' := by
  have tr : ∀ u, fr ≤ u → u + n ≤ to → ((∀ m, u ≤ m → m < u + n → g m) ↔ ∀ m, u ≤ m → m < u + n → g' m) := fun u h1 h2 =>
    ⟨fun h m a b => (hg m (by omega) (by omega)).1 (h m a b), fun h m a b => (hg m (by omega) (by omega)).2 (h m a b)⟩
  rcases h with ⟨rfl, a1, a2, a3, a4⟩ | ⟨rfl, rfl, a1⟩ <;> rcases h' with ⟨rfl, b1, b2, b3, b4⟩ | ⟨rfl, rfl, b1⟩
  · refine ⟨rfl, Int.le_antisymm (a4 _ b1 b2 ((tr _ b1 b2).2 b3)) (b4 _ a1 a2 ((tr _ a1 a2).1 a3))⟩
  · exact absurd ((tr _ a1 a2).1 a3) (b1 _ a1 a2)
  · exact absurd ((tr _ b1 b2).2 b3) (a1 _ b1 b2)
  · exact ⟨rfl, rfl⟩
/-- Sure and Maybe: where all that is g is g' as well, there is a window no later. -/
theorem WAns.sub {g g' : Int → Prop} {n fr to v e' v' : Int} (h : WAns g n fr to 0 v) (h' : WAns g' n fr to e' v') (hg : ∀ m, g m → g' m) : e' = 0 ∧ v' ≤ v := by
  rcases h with ⟨_, a1, a2, a3, a4⟩ | ⟨h0, _⟩
  · rcases h' with ⟨rfl, b1, b2, b3, b4⟩ | ⟨rfl, rfl, b1⟩
    · exact ⟨rfl, b4 _ a1 a2 fun m p q => hg m (a3 m p q)⟩
    · exact absurd (fun m p q => hg m (a3 m p q)) (b1 _ a1 a2)
  · exact absurd h0 (by decide)
/-- What the program knows when all minutes before last are asked. -/
structure WInv (g : Int → Prop) (n fr to last b : Int) : Prop where
  lo : fr ≤ b
  fine : ∀ m, b ≤ m → m < last → g m
  least : ∀ u, fr ≤ u → u + n ≤ to → (∀ m, u ≤ m → m < u + n → g m) → b ≤ u
  short : min last to - b < n
theorem WInv.start {g : Int → Prop} {n fr to : Int} (h0 : 0 ≤ fr) (h1 : 1 ≤ n) : WInv g n fr to 0 fr :=
  ⟨Int.le_refl _, fun m a b => by omega, fun u a _ _ => a, by omega⟩
theorem WInv.no {g : Int → Prop} {n fr to last b x : Int} (h : WInv g n fr to last b) (h1 : 1 ≤ n) (hx : last < x) (hg : ∀ m, last ≤ m → m < x → ¬ g m) : WInv g n fr to x (max b x) := by
  refine ⟨by have := h.lo; omega, fun m a c => by omega, fun u a c hu => ?_, by omega⟩
  have h2 := h.least u a c hu
  have h3 := h.short
  have h4 : x ≤ u := by
    rcases Int.lt_or_le u x with h5 | h5
    · exfalso
      rcases Int.lt_or_le u last with h6 | h6
      · rcases Int.lt_or_le last (u + n) with h7 | h7
        · exact hg last (by omega) hx (hu last (by omega) h7)
        · omega
      · exact hg u h6 h5 (hu u (by omega) (by omega))
    · exact h5
  omega
theorem WInv.stay {g : Int → Prop} {n fr to last b x : Int} (h : WInv g n fr to last b) (hg : ∀ m, last ≤ m → m < x → g m) (hs : min x to - b < n) : WInv g n fr to x b :=
  ⟨h.lo, fun m a c => (Int.lt_or_le m last).elim (h.fine m a) fun d => hg m d c, h.least, hs⟩
theorem WInv.found {g : Int → Prop} {n fr to last b x : Int} (h : WInv g n fr to last b) (hg : ∀ m, last ≤ m → m < x → g m) (hs : n ≤ min x to - b) : WAns g n fr to 0 b :=
  .inl ⟨rfl, h.lo, by omega, fun m a c => (Int.lt_or_le m last).elim (h.fine m a) fun d => hg m d (by omega), h.least⟩
theorem WInv.none {g : Int → Prop} {n fr to last b : Int} (h : WInv g n fr to last b) (hl : to ≤ last) : WAns g n fr to 8 0 :=
  .inr ⟨rfl, rfl, fun u a c hu => by have := h.least u a c hu; have := h.short; omega⟩
/-- What the reference knows: the last r minutes before t are fine. -/
structure RInv (g : Int → Prop) (n fr to t r : Int) : Prop where
  lo : fr ≤ t - r
  pos : 0 ≤ r
  lt : r < n
  fine : ∀ m, t - r ≤ m → m < t → g m
  least : ∀ u, fr ≤ u → u + n ≤ to → (∀ m, u ≤ m → m < u + n → g m) → t - r ≤ u
theorem RInv.start {g : Int → Prop} {n fr to : Int} (h1 : 1 ≤ n) : RInv g n fr to fr 0 :=
  ⟨by omega, by omega, by omega, fun m a b => by omega, fun u a _ _ => by omega⟩
theorem RInv.no {g : Int → Prop} {n fr to t r : Int} (h : RInv g n fr to t r) (hg : ¬ g t) : RInv g n fr to (t + 1) 0 := by
  have h1 := h.lo; have h2 := h.pos; have h3 := h.lt
  refine ⟨by omega, by omega, by omega, fun m a b => by omega, fun u a c hu => ?_⟩
  have h4 := h.least u a c hu
  rcases Int.lt_or_le t u with h5 | h5
  · omega
  · exact absurd (hu t h5 (by omega)) hg
theorem RInv.stay {g : Int → Prop} {n fr to t r : Int} (h : RInv g n fr to t r) (hg : g t) (hn : r + 1 ≠ n) : RInv g n fr to (t + 1) (r + 1) := by
  have h1 := h.lo; have h2 := h.pos; have h3 := h.lt
  refine ⟨by omega, by omega, by omega, fun m a b => ?_, fun u a c hu => by have := h.least u a c hu; omega⟩
  rcases Int.lt_or_le m t with h4 | h4
  · exact h.fine m (by omega) h4
  · obtain rfl : m = t := by omega
    exact hg
theorem RInv.found {g : Int → Prop} {n fr to t r : Int} (h : RInv g n fr to t r) (hg : g t) (ht : t < to) (hn : r + 1 = n) : WAns g n fr to 0 (t + 1 - n) := by
  have h1 := h.lo; have h2 := h.pos
  refine .inl ⟨rfl, by omega, by omega, fun m a b => ?_, fun u a c hu => by have := h.least u a c hu; omega⟩
  rcases Int.lt_or_le m t with h4 | h4
  · exact h.fine m (by omega) h4
  · obtain rfl : m = t := by omega
    exact hg
theorem RInv.none {g : Int → Prop} {n fr to t r : Int} (h : RInv g n fr to t r) (ht : to ≤ t) : WAns g n fr to 8 0 :=
  .inr ⟨rfl, rfl, fun u a c hu => by have := h.least u a c hu; have := h.lt; omega⟩

/-- A minute that is surely below a mark, or may be. -/
def FnP (n : Nat) (fr to lo hi : Nat → Int) (mark : Int) : Bool → Int → Prop
  | true, m => ∃ k, k < n ∧ CIn fr to m k ∧ hi k < mark
  | false, m => ∀ k, k < n → CIn fr to m k → lo k < mark
noncomputable def fnB (n : Nat) (fr to lo hi : Nat → Int) (mark : Int) (s : Bool) (m : Int) : Bool := @decide (FnP n fr to lo hi mark s m) (Classical.propDecidable _)
theorem fnB_iff {n : Nat} {fr to lo hi : Nat → Int} {mark m : Int} {s : Bool} : fnB n fr to lo hi mark s m = true ↔ FnP n fr to lo hi mark s m := by
  unfold fnB
  exact @decide_eq_true_iff _ (Classical.propDecidable _)
/-- What is asked of a cast. -/
def askC (mark : Int) (s : Bool) (lo hi : Int) : Bool := if s then decide (hi < mark) else decide (lo < mark)
theorem fnB_in {n : Nat} {fr to lo hi : Nat → Int} {mark m : Int} {s : Bool} {k : Nat} (h : CsOk n fr to lo hi) (hk : k < n) (h1 : CIn fr to m k) : fnB n fr to lo hi mark s m = askC mark s (lo k) (hi k) := by
  rw [Bool.eq_iff_iff, fnB_iff]
  cases s
  · simp only [FnP, askC, Bool.false_eq_true, if_false, decide_eq_true_eq]
    exact ⟨fun h2 => h2 k hk h1, fun h2 j hj h3 => by obtain rfl := cs_one h hk hj h1 h3; exact h2⟩
  · simp only [FnP, askC, if_true, decide_eq_true_eq]
    exact ⟨fun ⟨j, hj, h2, h3⟩ => by obtain rfl := cs_one h hk hj h1 h2; exact h3, fun h2 => ⟨k, hk, h1, h2⟩⟩
theorem fnB_out {n : Nat} {fr to lo hi : Nat → Int} {mark m : Int} {s : Bool} (h : ∀ k, k < n → ¬ CIn fr to m k) : fnB n fr to lo hi mark s m = !s := by
  rw [Bool.eq_iff_iff, fnB_iff]
  cases s
  · simp only [FnP, Bool.not_false, iff_true]
    exact fun k hk h1 => absurd h1 (h k hk)
  · simp only [FnP, Bool.not_true, Bool.false_eq_true, iff_false]
    rintro ⟨k, hk, h1, _⟩
    exact h k hk h1
/-- A gap's minutes are as one cast of any gust says. -/
theorem fnB_gap {n : Nat} {fr to lo hi : Nat → Int} {mark m : Int} {s : Bool} (h : CsOk n fr to lo hi) (hm1 : 1 ≤ mark) (hm2 : mark ≤ 200) {k : Nat} (hk : k ≤ n) (h1 : laC to k ≤ m) (h2 : k < n → m < fr k) : fnB n fr to lo hi mark s m = askC mark s 0 200 := by
  rw [fnB_out]
  · cases s <;> simp [askC] <;> omega
  · intro j hj hc
    unfold CIn at hc
    rcases Nat.lt_or_ge j k with hjk | hjk
    · have := la_ge h hk hjk; omega
    · have h3 := h2 (by omega)
      rcases Nat.lt_or_ge k j with hkj | hkj
      · have := cs_apart h j hj k hkj
        have := (h k (by omega)).2.1
        omega
      · obtain rfl : j = k := by omega
        omega

/-- A cast as four numbers. -/
abbrev Qd := Int × Int × Int × Int
def cq (fr to lo hi : Nat → Int) (k : Nat) : Qd := (fr k, to k, lo k, hi k)
/-- The casts and gaps up to the k-th cast. -/
def whK (fr to lo hi : Nat → Int) : Nat → List Qd
  | 0 => []
  | k + 1 => (if laC to k < fr k then whK fr to lo hi k ++ [(laC to k, fr k, 0, 200)] else whK fr to lo hi k) ++ [cq fr to lo hi k]
/-- All of them, and what is behind. -/
def whA (n : Nat) (fr to lo hi : Nat → Int) : List Qd := if laC to n < 100000 then whK fr to lo hi n ++ [(laC to n, 100000, 0, 200)] else whK fr to lo hi n
def endQ (l : List Qd) : Int := match l.getLast? with | none => 0 | some q => q.2.1
theorem endQ_snoc (l : List Qd) (q : Qd) : endQ (l ++ [q]) = q.2.1 := by simp [endQ]
/-- All casts of a list lie one behind the other. -/
def InRow (Q : List Qd → Qd → Prop) (l : List Qd) : Prop := ∀ pre x r, l = pre ++ x :: r → Q pre x
theorem inRow_nil {Q : List Qd → Qd → Prop} : InRow Q [] := fun pre x r h => by simp at h
theorem inRow_snoc {Q : List Qd → Qd → Prop} {l : List Qd} {y : Qd} (h : InRow Q l) (hy : Q l y) : InRow Q (l ++ [y]) := by
  intro pre x r e
  rcases nil_or_snoc r with rfl | ⟨r', z, rfl⟩
  · have := List.append_inj' e rfl
    obtain ⟨rfl, h2⟩ := this
    cases h2
    exact hy
  · have e2 : l ++ [y] = (pre ++ x :: r') ++ [z] := by rw [e]; simp
    have := List.append_inj' e2 rfl
    exact h pre x r' this.1
/-- What holds of each segment. -/
def SegOk (g : Int → Bool) (mark : Int) (s : Bool) (pre : List Qd) (x : Qd) : Prop :=
  x.1 = endQ pre ∧ x.1 < x.2.1 ∧ 0 ≤ x.1 ∧ x.2.1 ≤ 100000 ∧ 0 ≤ x.2.2.1 ∧ x.2.2.1 ≤ 200 ∧ 0 ≤ x.2.2.2 ∧ x.2.2.2 ≤ 200 ∧ ∀ m, x.1 ≤ m → m < x.2.1 → g m = askC mark s x.2.2.1 x.2.2.2
theorem seg_whK {n : Nat} {fr to lo hi : Nat → Int} {mark : Int} {s : Bool} (h : CsOk n fr to lo hi) (hm1 : 1 ≤ mark) (hm2 : mark ≤ 200) : ∀ k, k ≤ n → InRow (SegOk (fnB n fr to lo hi mark s) mark s) (whK fr to lo hi k) ∧ endQ (whK fr to lo hi k) = laC to k
  | 0, _ => ⟨inRow_nil, rfl⟩
  | k + 1, hk => by
    obtain ⟨h1, h2⟩ := seg_whK (mark := mark) (s := s) h hm1 hm2 k (by omega)
    have h3 := h k (by omega)
    have h4 := csOk_la h k (by omega)
    unfold OkC at h3
    have hc : ∀ m, fr k ≤ m → m < to k → fnB n fr to lo hi mark s m = askC mark s (lo k) (hi k) := fun m a b => fnB_in h (by omega) ⟨a, b⟩
    refine ⟨?_, by rw [whK, endQ_snoc]; rfl⟩
    unfold whK
    by_cases hg : laC to k < fr k
    · rw [if_pos hg]
      refine inRow_snoc (inRow_snoc h1 ⟨h2.symm, hg, h4.1, by simp only; omega, by simp, by simp, by simp, by simp, fun m a b => fnB_gap h hm1 hm2 (by omega : k ≤ n) a fun _ => b⟩) ⟨by rw [endQ_snoc]; rfl, h3.2.1, ?_, h3.2.2.1, h3.2.2.2.1, ?_, ?_, h3.2.2.2.2.2, hc⟩ <;> (simp only [cq]; omega)
    · rw [if_neg hg]
      refine inRow_snoc h1 ⟨by rw [h2]; show fr k = _; omega, h3.2.1, ?_, h3.2.2.1, h3.2.2.2.1, ?_, ?_, h3.2.2.2.2.2, hc⟩ <;> (simp only [cq]; omega)
theorem seg_whA {n : Nat} {fr to lo hi : Nat → Int} {mark : Int} {s : Bool} (h : CsOk n fr to lo hi) (hm1 : 1 ≤ mark) (hm2 : mark ≤ 200) : InRow (SegOk (fnB n fr to lo hi mark s) mark s) (whA n fr to lo hi) ∧ endQ (whA n fr to lo hi) = 100000 := by
  obtain ⟨h1, h2⟩ := seg_whK (mark := mark) (s := s) h hm1 hm2 n (Nat.le_refl _)
  have h4 := csOk_la h n (Nat.le_refl _)
  unfold whA
  by_cases hg : laC to n < 100000
  · rw [if_pos hg]
    exact ⟨inRow_snoc h1 ⟨h2.symm, hg, h4.1, by simp, by simp, by simp, by simp, by simp, fun m a b => fnB_gap h hm1 hm2 (Nat.le_refl n) a fun c => absurd c (by omega)⟩, by rw [endQ_snoc]⟩
  · rw [if_neg hg]
    exact ⟨h1, by rw [h2]; omega⟩
end Go.Proofs.Ytlnlgboeohfpdaa.Tw
