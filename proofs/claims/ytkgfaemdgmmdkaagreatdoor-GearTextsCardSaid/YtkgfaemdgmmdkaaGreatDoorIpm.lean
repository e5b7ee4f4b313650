/- What a text of gear says, as mathematics: lines of a name, two numbers and a name. -/
import Derived.Test.YtkgfaemdgmmdkaaGreatDoorGxJoinw
import Derived.Test.YtkgfaemdgmmdkaaGreatDoorGxAtoim
import Derived.Test.YtkgfaemdgmmdkaaGreatDoorGxGfi
namespace Go.Proofs.YtkgfaemdgmmdkaaGreatDoor.Gx
open Go.Proofs.YtkgfaemdgmmdkaaGreatDoor
open Go.RowKit

/-- An item. -/
abbrev It := List UInt8 × Int × Int × List UInt8
def it0 : It := ([], 0, 0, [])
def iM (ps : List It) (i : Nat) : List UInt8 := (ps.getD i it0).1
def iL (ps : List It) (i : Nat) : Int := (ps.getD i it0).2.1
def iD (ps : List It) (i : Nat) : Int := (ps.getD i it0).2.2.1
def iB (ps : List It) (i : Nat) : List UInt8 := (ps.getD i it0).2.2.2
/-- Valid gear, as a list. -/
def GoodI (ps : List It) : Prop := VgP ps.length (iM ps) (iL ps) (iD ps) (iB ps)
noncomputable def gB (ps : List It) : Bool := vgB ps.length (iM ps) (iL ps) (iD ps) (iB ps)
theorem gB_good {ps : List It} : gB ps = true ↔ GoodI ps := ⟨fun h => vgB_of h, fun h => vgB_true h⟩
theorem gB_bad {ps : List It} (h : gB ps = false) : ¬ GoodI ps := fun g => by rw [gB_good.2 g] at h; cases h
theorem it_get {ps : List It} {i : Nat} {p : It} (h : ps[i]? = some p) : ps.getD i it0 = p := by rw [List.getD_eq_getElem?_getD, h]; rfl
theorem get_it (ps : List It) {k : Nat} (h : k < ps.length) : ps[k]? = some (ps.getD k it0) := by
  rw [List.getD_eq_getElem?_getD, List.getElem?_eq_getElem h]; rfl
theorem it_take {ps : List It} {k i : Nat} (h : i < k) : (ps.take k).getD i it0 = ps.getD i it0 := by
  rw [List.getD_eq_getElem?_getD, List.getD_eq_getElem?_getD, List.getElem?_take_of_lt h]
theorem goodI_nil : GoodI [] := ⟨by simp, fun i hi => absurd hi (by simp)⟩
theorem goodI_take {ps : List It} (h : GoodI ps) (k : Nat) : GoodI (ps.take k) := by
  refine ⟨by have := h.1; rw [List.length_take]; omega, fun i hi => ?_⟩
  rw [List.length_take] at hi
  obtain ⟨h1, h2⟩ := h.2 i (by omega)
  have e := it_take (ps := ps) (show i < k by omega)
  refine ⟨by unfold iM iL iD iB; rw [e]; exact h1, fun j hj => ?_⟩
  have e2 := it_take (ps := ps) (show j < k by omega)
  unfold iM
  rw [e, e2]
  exact h2 j hj
/-- An item whose line can be read back. -/
def InI (p : It) : Prop := ((32 : UInt8) ∉ p.1 ∧ (32 : UInt8) ∉ p.2.2.2) ∧ I64 p.2.1 ∧ I64 p.2.2.1
/-- No line feed in the names. -/
def NlI (p : It) : Prop := (10 : UInt8) ∉ p.1 ∧ (10 : UInt8) ∉ p.2.2.2
theorem nm_no {s : List UInt8} (h : nmB s = true) {m : UInt8} (hm : (smC m || otC m) = false) : m ∉ s := fun hmem => by
  unfold nmB at h
  simp only [Bool.and_eq_true] at h
  have := List.all_eq_true.1 h.2 m hmem
  rw [hm] at this
  cases this
theorem nm_len {s : List UInt8} (h : nmB s = true) : 1 ≤ s.length ∧ s.length ≤ 16 := by
  unfold nmB at h
  simp only [Bool.and_eq_true, decide_eq_true_eq] at h
  exact h.1.1
theorem ok_facts {p : It} (h : okI p.1 p.2.1 p.2.2.1 p.2.2.2 = true) : InI p ∧ NlI p ∧ p.1.length ≤ 16 ∧ p.2.2.2.length ≤ 16 ∧ (1 ≤ p.2.1 ∧ p.2.1 ≤ 1000000) ∧ (0 ≤ p.2.2.1 ∧ p.2.2.1 ≤ 100000) := by
  unfold okI at h
  simp only [Bool.and_eq_true, decide_eq_true_eq] at h
  obtain ⟨⟨⟨h1, h2⟩, h3⟩, h4⟩ := h
  unfold Btw at h2 h3
  exact ⟨⟨⟨nm_no h1 (by decide), nm_no h4 (by decide)⟩, by unfold I64; omega, by unfold I64; omega⟩, ⟨nm_no h1 (by decide), nm_no h4 (by decide)⟩, (nm_len h1).2, (nm_len h4).2, by omega, by omega⟩
theorem goodI_at {ps : List It} (h : GoodI ps) {i : Nat} {p : It} (hi : ps[i]? = some p) : okI p.1 p.2.1 p.2.2.1 p.2.2.2 = true := by
  have h1 := (h.2 i (List.getElem?_eq_some_iff.1 hi).1).1
  unfold iM iL iD iB at h1
  rwa [it_get hi] at h1
theorem goodI_last {ps : List It} {p : It} (h : GoodI (ps ++ [p])) : InI p := (ok_facts (goodI_at h (i := ps.length) (by simp))).1
/-- An item's line. -/
def itL (p : It) : List UInt8 := joinW 32 [p.1, Lib.itoa p.2.1, Lib.itoa p.2.2.1, p.2.2.2]
def wdI (p : It) : List (List UInt8) := [p.1, Lib.itoa p.2.1, Lib.itoa p.2.2.1, p.2.2.2]
theorem words_it {p : It} (h : InI p) : wordsL 32 (itL p) = wdI p := by
  obtain ⟨⟨h1, h4⟩, _⟩ := h
  unfold itL joinW joinW joinW joinW wdI
  rw [words_app 32 _ _ h1, words_app 32 _ _ (itoa_no _ (by decide)), words_app 32 _ _ (itoa_no _ (by decide)), words_one 32 _ h4]
theorem it_no {p : It} (h : NlI p) : (10 : UInt8) ∉ itL p := by
  unfold itL joinW joinW joinW joinW
  have h0 := itoa_no p.2.1 (m := 10) (by decide)
  have h1 := itoa_no p.2.2.1 (m := 10) (by decide)
  simp [h0, h1, h.1, h.2]
theorem it_of_words {t : List UInt8} {p : It} (h : wordsL 32 t = wdI p) : t = itL p := by
  have := words_back 32 _ t (Nat.le_refl _)
  rw [h] at this
  exact this.symm
theorem itoa_injI {a b : Int} (ha : I64 a) (hb : I64 b) (h : Lib.itoa a = Lib.itoa b) : a = b := by
  have h1 := atoi_itoa ha
  rw [h, atoi_itoa hb] at h1
  injection h1 with h1
  exact h1.symm
theorem wd_inj {p q : It} (hp : InI p) (hq : InI q) (h : wdI p = wdI q) : p = q := by
  obtain ⟨a, b, c, d⟩ := p
  obtain ⟨a', b', c', d'⟩ := q
  simp only [wdI, List.cons.injEq, and_true] at h
  obtain ⟨rfl, h2, h3, rfl⟩ := h
  have e1 : b = b' := itoa_injI hp.2.1 hq.2.1 h2
  have e2 : c = c' := itoa_injI hp.2.2 hq.2.2 h3
  rw [e1, e2]
theorem it_inj {p q : It} (hp : InI p) (hq : InI q) (h : itL p = itL q) : p = q :=
  wd_inj hp hq (by rw [← words_it hp, ← words_it hq, h])
def PI (ls : List (List UInt8)) (ps : List It) : Prop := GoodI ps ∧ ∀ (i : Nat) (p : It), ps[i]? = some p → ls[i]? = some (itL p)
def NoI (ls : List (List UInt8)) (ps : List It) : Prop := ∀ t p, ls[ps.length]? = some t → t = itL p → ¬ GoodI (ps ++ [p])
def WholeI (ls : List (List UInt8)) (ps : List It) : Prop := PI ls ps ∧ ls.length = ps.length + 1 ∧ ls[ps.length]? = some []
def StopsI (ls : List (List UInt8)) (k : Nat) : Prop := ∃ ps, PI ls ps ∧ ps.length = k ∧ ((k + 1 < ls.length ∧ NoI ls ps) ∨ (ls.length = k + 1 ∧ ls[k]? ≠ some []))
theorem pi_prefix {ls : List (List UInt8)} {ps qs : List It} (h : PI ls ps) (h' : PI ls qs) (hl : ps.length ≤ qs.length) : ps = qs.take ps.length := by
  apply List.ext_getElem?
  intro i
  by_cases hi : i < ps.length
  · obtain ⟨p, hp⟩ : ∃ p, ps[i]? = some p := ⟨_, List.getElem?_eq_getElem hi⟩
    obtain ⟨q, hq⟩ : ∃ q, qs[i]? = some q := ⟨_, List.getElem?_eq_getElem (by omega)⟩
    have e := (h.2 i p hp).symm.trans (h'.2 i q hq)
    rw [hp, List.getElem?_take_of_lt hi, hq, it_inj (ok_facts (goodI_at h.1 hp)).1 (ok_facts (goodI_at h'.1 hq)).1 (Option.some.inj e)]
  · rw [List.getElem?_eq_none (by omega), List.getElem?_eq_none (by rw [List.length_take]; omega)]
theorem no_furtherI {ls : List (List UInt8)} {ps qs : List It} (h : PI ls ps) (hn : NoI ls ps) (h' : PI ls qs) (hlt : ps.length < qs.length) : False := by
  obtain ⟨q, hq⟩ : ∃ q, qs[ps.length]? = some q := ⟨_, List.getElem?_eq_getElem hlt⟩
  refine hn _ q (h'.2 _ q hq) rfl ?_
  have e : ps ++ [q] = qs.take (ps.length + 1) := by
    rw [List.take_add_one, hq, ← pi_prefix h h' (by omega)]
    rfl
  rw [e]
  exact goodI_take h'.1 _
theorem stopsI_same {ls : List (List UInt8)} {k k' : Nat} (h : StopsI ls k) (h' : StopsI ls k') : k = k' := by
  obtain ⟨ps, h1, rfl, h2⟩ := h
  obtain ⟨qs, h1', rfl, h2'⟩ := h'
  rcases Nat.lt_trichotomy ps.length qs.length with hlt | e | hlt
  · rcases h2 with ⟨_, hn⟩ | ⟨he, _⟩
    · exact (no_furtherI h1 hn h1' hlt).elim
    · rcases h2' with ⟨hl, _⟩ | ⟨hl, _⟩ <;> omega
  · exact e
  · rcases h2' with ⟨_, hn⟩ | ⟨he, _⟩
    · exact (no_furtherI h1' hn h1 hlt).elim
    · rcases h2 with ⟨hl, _⟩ | ⟨hl, _⟩ <;> omega
theorem wholeI_stops {ls : List (List UInt8)} {k' : Nat} {ps : List It} (h : WholeI ls ps) (h' : StopsI ls k') : False := by
  obtain ⟨h1, h2, h4⟩ := h
  obtain ⟨qs, h1', rfl, ⟨hl, hn⟩ | ⟨hl, h0⟩⟩ := h'
  · exact no_furtherI h1' hn h1 (by omega)
  · rw [show qs.length = ps.length by omega] at h0
    exact h0 h4
theorem wholeI_same {ls : List (List UInt8)} {ps qs : List It} (h : WholeI ls ps) (h' : WholeI ls qs) : ps = qs := by
  have e : ps.length = qs.length := by have a := h.2.1; have b := h'.2.1; omega
  have := pi_prefix h.1 h'.1 (by omega)
  rw [e, List.take_length] at this
  exact this
/-- The gear's text. -/
def formI (ps : List It) : List UInt8 := ps.flatMap fun p => itL p ++ [10]
theorem formI_snoc (ps : List It) (p : It) : formI (ps ++ [p]) = formI ps ++ (itL p ++ [10]) := by simp [formI]
theorem formI_next (ps : List It) {k : Nat} (h : k < ps.length) : formI (ps.take (k + 1)) = formI (ps.take k) ++ (itL (ps.getD k it0) ++ [10]) := by
  rw [List.take_add_one, get_it ps h]
  exact formI_snoc _ _
theorem goodI_nl {ps : List It} (h : GoodI ps) : ∀ p ∈ ps, NlI p := fun p hp => by
  obtain ⟨i, hi, e⟩ := List.mem_iff_getElem.1 hp
  exact (ok_facts (goodI_at h (i := i) (by rw [List.getElem?_eq_getElem hi, e]))).2.1
theorem formI_behind {ps : List It} (h : ∀ p ∈ ps, NlI p) (y : List UInt8) : wordsL 10 (formI ps ++ y) = ps.map itL ++ wordsL 10 y := by
  induction ps with
  | nil => simp [formI]
  | cons p r ih =>
    have e : formI (p :: r) ++ y = itL p ++ 10 :: (formI r ++ y) := by simp [formI]
    rw [e, words_app 10 _ _ (it_no (h p (by simp))), ih fun q hq => h q (List.mem_cons_of_mem _ hq)]
    rfl
theorem formI_lines {ps : List It} (h : GoodI ps) : wordsL 10 (formI ps) = ps.map itL ++ [[]] := by
  have := formI_behind (goodI_nl h) []
  rw [List.append_nil] at this
  rw [this]
  rfl
theorem pi_behind {ps : List It} (h : GoodI ps) (ws : List (List UInt8)) : PI (ps.map itL ++ ws) ps := by
  refine ⟨h, fun i p hi => ?_⟩
  have hl := (List.getElem?_eq_some_iff.1 hi).1
  rw [List.getElem?_append_left (by simpa using hl), List.getElem?_map, hi, Option.map_some]
theorem formI_whole {ps : List It} (h : GoodI ps) : WholeI (wordsL 10 (formI ps)) ps := by
  rw [formI_lines h]
  exact ⟨pi_behind h _, by simp, by rw [List.getElem?_append_right (by simp)]; simp⟩
theorem wholeI_form {s : List UInt8} {ps : List It} (h : WholeI (wordsL 10 s) ps) : s = formI ps := by
  have e := words_back 10 _ s (Nat.le_refl _)
  obtain ⟨h1, h2, h4⟩ := h
  have el : wordsL 10 s = ps.map itL ++ [[]] := by
    apply List.ext_getElem?
    intro i
    rcases Nat.lt_trichotomy i ps.length with hi | hi | hi
    · obtain ⟨p, hp⟩ : ∃ p, ps[i]? = some p := ⟨_, List.getElem?_eq_getElem hi⟩
      rw [h1.2 i p hp, List.getElem?_append_left (by simpa using hi), List.getElem?_map, hp, Option.map_some]
    · subst hi
      rw [h4, List.getElem?_append_right (by simp)]
      simp
    · rw [List.getElem?_eq_none (by omega), List.getElem?_eq_none (by simp; omega)]
  rw [el, joinW_end] at e
  rw [← e]
  unfold formI
  rw [List.flatMap_map]
theorem itoa_l20 {n : Int} (h : I64 n) : (Lib.itoa n).length ≤ 20 := by
  obtain ⟨h0, h1⟩ := h
  unfold Lib.itoa
  split
  · have := dec_len (N := n.natAbs) (by omega); simp; omega
  · have := dec_len (N := n.toNat) (by omega); omega
theorem it_len {p : It} (h : I64 p.2.1 ∧ I64 p.2.2.1) : (itL p).length ≤ p.1.length + p.2.2.2.length + 43 := by
  have b0 := itoa_l20 h.1
  have b1 := itoa_l20 h.2
  simp only [itL, joinW, List.length_append, List.length_cons]
  omega
theorem formI_len : ∀ {ps : List It}, (∀ p ∈ ps, (itL p).length ≤ 75) → (formI ps).length ≤ ps.length * 76
  | [], _ => by simp [formI]
  | p :: ps, h => by
    have ih := formI_len (ps := ps) fun q hq => h q (List.mem_cons_of_mem _ hq)
    have hp := h p List.mem_cons_self
    have e : formI (p :: ps) = (itL p ++ [10]) ++ formI ps := rfl
    rw [e]
    simp only [List.length_append, List.length_cons, List.length_nil]
    omega
theorem goodI_line {ps : List It} (h : GoodI ps) : ∀ p ∈ ps, (itL p).length ≤ 75 := fun p hp => by
  obtain ⟨i, hi, e⟩ := List.mem_iff_getElem.1 hp
  obtain ⟨h1, _, h3, h4, _⟩ := ok_facts (goodI_at h (i := i) (by rw [List.getElem?_eq_getElem hi, e]))
  have := it_len h1.2
  omega
theorem goodI_text {ps : List It} (h : GoodI ps) : (formI ps).length ≤ 4864 := by
  have := formI_len (goodI_line h)
  have := h.1
  omega
end Go.Proofs.YtkgfaemdgmmdkaaGreatDoor.Gx
