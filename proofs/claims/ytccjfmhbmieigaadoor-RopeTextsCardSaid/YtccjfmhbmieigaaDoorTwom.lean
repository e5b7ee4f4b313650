/- What a text of uses says, as mathematics: lines of two numbers. -/
import Derived.Test.YtccjfmhbmieigaaDoorJoinw
import Derived.Test.YtccjfmhbmieigaaDoorNumbs
import Derived.Test.YtccjfmhbmieigaaDoorRoUsem
namespace Go.Proofs.YtccjfmhbmieigaaDoor
open Go.RowKit Ro

/-- A use's line. -/
def useL (p : Int × Int) : List UInt8 := joinW 32 [Lib.itoa p.1, Lib.itoa p.2]
def PU (ls : List (List UInt8)) (ps : List (Int × Int)) : Prop := GoodU ps ∧ ∀ (i : Nat) (p : Int × Int), ps[i]? = some p → ls[i]? = some (useL p)
def NoU (ls : List (List UInt8)) (ps : List (Int × Int)) : Prop := ∀ t p, ls[ps.length]? = some t → t = useL p → ¬ GoodU (ps ++ [p])
def WholeU (ls : List (List UInt8)) (ps : List (Int × Int)) : Prop := PU ls ps ∧ ls.length = ps.length + 1 ∧ ls[ps.length]? = some []
def StopsU (ls : List (List UInt8)) (k : Nat) : Prop := ∃ ps, PU ls ps ∧ ps.length = k ∧ ((k + 1 < ls.length ∧ NoU ls ps) ∨ (ls.length = k + 1 ∧ ls[k]? ≠ some []))
theorem words_use (p : Int × Int) : wordsL 32 (useL p) = [Lib.itoa p.1, Lib.itoa p.2] := by
  unfold useL joinW joinW
  rw [words_app 32 _ _ (itoa_no _ (by decide)), words_one 32 _ (itoa_no _ (by decide))]
theorem use_no (p : Int × Int) : (10 : UInt8) ∉ useL p := by
  unfold useL joinW joinW
  have h0 := itoa_no p.1 (m := 10) (by decide)
  have h1 := itoa_no p.2 (m := 10) (by decide)
  simp [h0, h1]
theorem use_of_words {t : List UInt8} {p : Int × Int} (h : wordsL 32 t = [Lib.itoa p.1, Lib.itoa p.2]) : t = useL p := by
  have := words_back 32 _ t (Nat.le_refl _)
  rw [h] at this
  exact this.symm
theorem itoa_injU {a b : Int} (ha : In18 a) (hb : In18 b) (h : Lib.itoa a = Lib.itoa b) : a = b := by
  have h1 := (read_back ha rfl).2.2.2
  have h2 := (read_back hb rfl).2.2.2
  rw [← h1, ← h2, h]
def In2 (p : Int × Int) : Prop := In18 p.1 ∧ In18 p.2
theorem use_inj {p q : Int × Int} (hp : In2 p) (hq : In2 q) (h : useL p = useL q) : p = q := by
  have e : [Lib.itoa p.1, Lib.itoa p.2] = [Lib.itoa q.1, Lib.itoa q.2] := by rw [← words_use p, ← words_use q, h]
  simp only [List.cons.injEq, and_true] at e
  exact Prod.ext (itoa_injU hp.1 hq.1 e.1) (itoa_injU hp.2 hq.2 e.2)
theorem usAt_get {ps : List (Int × Int)} {i : Nat} {p : Int × Int} (h : ps[i]? = some p) : usAt ps i = p := by
  unfold usAt
  rw [List.getD_eq_getElem?_getD, h]
  rfl
theorem goodU_in2 {ps : List (Int × Int)} (h : GoodU ps) {i : Nat} {p : Int × Int} (hi : ps[i]? = some p) : In2 p := by
  have hl := (List.getElem?_eq_some_iff.1 hi).1
  have := h.2 i hl
  unfold OkU at this
  rw [usAt_get hi] at this
  obtain ⟨⟨a1, a2⟩, ⟨b1, b2⟩, _⟩ := this
  unfold In2 In18
  omega
theorem usAt_take {ps : List (Int × Int)} {k i : Nat} (h : i < k) : usAt (ps.take k) i = usAt ps i := by
  unfold usAt
  rw [List.getD_eq_getElem?_getD, List.getD_eq_getElem?_getD, List.getElem?_take_of_lt h]
theorem goodU_take {ps : List (Int × Int)} (h : GoodU ps) (k : Nat) : GoodU (ps.take k) := by
  refine ⟨by have := h.1; rw [List.length_take]; omega, fun i hi => ?_⟩
  rw [List.length_take] at hi
  have := h.2 i (by omega)
  unfold OkU at this ⊢
  rw [usAt_take (by omega : i < k)]
  exact ⟨this.1, this.2.1, fun h0 => by rw [usAt_take (by omega : i - 1 < k)]; exact this.2.2 h0⟩
theorem pu_prefix {ls : List (List UInt8)} {ps qs : List (Int × Int)} (h : PU ls ps) (h' : PU ls qs) (hl : ps.length ≤ qs.length) : ps = qs.take ps.length := by
  apply List.ext_getElem?
  intro i
  by_cases hi : i < ps.length
  · obtain ⟨p, hp⟩ : ∃ p, ps[i]? = some p := ⟨_, List.getElem?_eq_getElem hi⟩
    obtain ⟨q, hq⟩ : ∃ q, qs[i]? = some q := ⟨_, List.getElem?_eq_getElem (by omega)⟩
    have e := (h.2 i p hp).symm.trans (h'.2 i q hq)
    rw [hp, List.getElem?_take_of_lt hi, hq, use_inj (goodU_in2 h.1 hp) (goodU_in2 h'.1 hq) (Option.some.inj e)]
  · rw [List.getElem?_eq_none (by omega), List.getElem?_eq_none (by rw [List.length_take]; omega)]
theorem no_furtherU {ls : List (List UInt8)} {ps qs : List (Int × Int)} (h : PU ls ps) (hn : NoU ls ps) (h' : PU ls qs) (hlt : ps.length < qs.length) : False := by
  obtain ⟨q, hq⟩ : ∃ q, qs[ps.length]? = some q := ⟨_, List.getElem?_eq_getElem hlt⟩
  refine hn _ q (h'.2 _ q hq) rfl ?_
  have e : ps ++ [q] = qs.take (ps.length + 1) := by
    rw [List.take_add_one, hq, ← pu_prefix h h' (by omega)]
    rfl
  rw [e]
  exact goodU_take h'.1 _
theorem stopsU_same {ls : List (List UInt8)} {k k' : Nat} (h : StopsU ls k) (h' : StopsU ls k') : k = k' := by
  obtain ⟨ps, h1, rfl, h2⟩ := h
  obtain ⟨qs, h1', rfl, h2'⟩ := h'
  rcases Nat.lt_trichotomy ps.length qs.length with hlt | e | hlt
  · rcases h2 with ⟨_, hn⟩ | ⟨he, _⟩
    · exact (no_furtherU h1 hn h1' hlt).elim
    · rcases h2' with ⟨hl, _⟩ | ⟨hl, _⟩ <;> omega
  · exact e
  · rcases h2' with ⟨_, hn⟩ | ⟨he, _⟩
    · exact (no_furtherU h1' hn h1 hlt).elim
    · rcases h2 with ⟨hl, _⟩ | ⟨hl, _⟩ <;> omega
theorem wholeU_stops {ls : List (List UInt8)} {k' : Nat} {ps : List (Int × Int)} (h : WholeU ls ps) (h' : StopsU ls k') : False := by
  obtain ⟨h1, h2, h4⟩ := h
  obtain ⟨qs, h1', rfl, ⟨hl, hn⟩ | ⟨hl, h0⟩⟩ := h'
  · exact no_furtherU h1' hn h1 (by omega)
  · rw [show qs.length = ps.length by omega] at h0
    exact h0 h4
theorem wholeU_same {ls : List (List UInt8)} {ps qs : List (Int × Int)} (h : WholeU ls ps) (h' : WholeU ls qs) : ps = qs := by
  have e : ps.length = qs.length := by have a := h.2.1; have b := h'.2.1; omega
  have := pu_prefix h.1 h'.1 (by omega)
  rw [e, List.take_length] at this
  exact this
/-- The uses' text. -/
def formU (ps : List (Int × Int)) : List UInt8 := ps.flatMap fun p => useL p ++ [10]
theorem formU_snoc (ps : List (Int × Int)) (p : Int × Int) : formU (ps ++ [p]) = formU ps ++ (useL p ++ [10]) := by simp [formU]
theorem formU_lines (ps : List (Int × Int)) : wordsL 10 (formU ps) = ps.map useL ++ [[]] := by
  rw [← words_lines _ (fun x hx => by obtain ⟨i, _, rfl⟩ := List.mem_map.1 hx; exact use_no _)]
  unfold formU
  rw [List.flatMap_map]
theorem formU_whole {ps : List (Int × Int)} (h : GoodU ps) : WholeU (wordsL 10 (formU ps)) ps := by
  rw [formU_lines]
  refine ⟨⟨h, fun i p hi => ?_⟩, by simp, ?_⟩
  · have hl := (List.getElem?_eq_some_iff.1 hi).1
    rw [List.getElem?_append_left (by simpa using hl), List.getElem?_map, hi, Option.map_some]
  · rw [List.getElem?_append_right (by simp)]; simp
theorem wholeU_form {s : List UInt8} {ps : List (Int × Int)} (h : WholeU (wordsL 10 s) ps) : s = formU ps := by
  have e := words_back 10 _ s (Nat.le_refl _)
  obtain ⟨h1, h2, h4⟩ := h
  have el : wordsL 10 s = ps.map useL ++ [[]] := by
    apply List.ext_getElem?
    intro i
    rcases Nat.lt_trichotomy i ps.length with hi | hi | hi
    · obtain ⟨p, hp⟩ : ∃ p, ps[i]? = some p := ⟨_, List.getElem?_eq_getElem hi⟩
      rw [h1.2 i p hp, List.getElem?_append_left (by simpa using hi), List.getElem?_map, hp, Option.map_some]
    · subst hi
      rw [h4, List.getElem?_append_right (by simp)]
      simp
    · rw [List.getElem?_eq_none (by omega), List.getElem?_eq_none (by simp; omega)]
  rw [el, joinW_end] at e
  rw [← e]
  unfold formU
  rw [List.flatMap_map]
theorem use_len {p : Int × Int} (h : -9223372036854775808 ≤ p.1 ∧ p.1 ≤ 9223372036854775807) (h' : -9223372036854775808 ≤ p.2 ∧ p.2 ≤ 9223372036854775807) : 1 ≤ (useL p).length ∧ (useL p).length ≤ 41 := by
  have b0 := itoa_len h.1 h.2
  have b1 := itoa_len h'.1 h'.2
  simp only [useL, joinW, List.length_append, List.length_cons]
  omega
theorem formU_len : ∀ {ps : List (Int × Int)}, (∀ p ∈ ps, In2 p) → (formU ps).length ≤ ps.length * 42
  | [], _ => by simp [formU]
  | p :: ps, h => by
    have ih := formU_len (ps := ps) fun q hq => h q (List.mem_cons_of_mem _ hq)
    have hp := h p List.mem_cons_self
    unfold In2 In18 at hp
    have hl := use_len (p := p) (by omega) (by omega)
    have e : formU (p :: ps) = (useL p ++ [10]) ++ formU ps := rfl
    rw [e]
    simp only [List.length_append, List.length_cons, List.length_nil]
    omega
end Go.Proofs.YtccjfmhbmieigaaDoor
