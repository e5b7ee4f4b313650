/- What a text of a stack says, as mathematics: lines of six numbers. -/
import Derived.Test.YtcaelmaoldmgpaaDoorJoinw
import Derived.Test.YtcaelmaoldmgpaaDoorNumbs
namespace Go.Proofs.YtcaelmaoldmgpaaDoor
open Go.RowKit

/-- The six words of a course's line, and the line. -/
def sixW (F : Nat → Int) : List (List UInt8) := [Lib.itoa (F 0), Lib.itoa (F 1), Lib.itoa (F 2), Lib.itoa (F 3), Lib.itoa (F 4), Lib.itoa (F 5)]
def rowL (F : Nat → Int) : List UInt8 := joinW 32 (sixW F)
/-- A course's numbers are in their bounds: height, out, in, weight, east, north. -/
def OkR (F : Nat → Int) : Prop := 1 ≤ F 0 ∧ F 0 ≤ 2000 ∧ 1 ≤ F 1 ∧ F 1 ≤ 5000 ∧ 0 ≤ F 2 ∧ F 2 < F 1 ∧ 1 ≤ F 3 ∧ F 3 ≤ 1000000 ∧ -5000 ≤ F 4 ∧ F 4 ≤ 5000 ∧ -5000 ≤ F 5 ∧ F 5 ≤ 5000
instance (F : Nat → Int) : Decidable (OkR F) := by unfold OkR; infer_instance
def PG (ls : List (List UInt8)) (k : Nat) (f : Nat → Nat → Int) : Prop := k ≤ 60 ∧ ∀ i, i < k → OkR (f i) ∧ ls[i]? = some (rowL (f i))
def NoL (ls : List (List UInt8)) (k : Nat) : Prop := ∀ t, ls[k]? = some t → ∀ F, OkR F → k < 60 → t ≠ rowL F
def WholeC (ls : List (List UInt8)) (k : Nat) (f : Nat → Nat → Int) : Prop := PG ls k f ∧ ls.length = k + 1 ∧ 1 ≤ k ∧ ls[k]? = some []
def StopsC (ls : List (List UInt8)) (k : Nat) : Prop := (∃ f, PG ls k f) ∧ ((k + 1 < ls.length ∧ NoL ls k) ∨ (ls.length = k + 1 ∧ (k = 0 ∨ ls[k]? ≠ some [])))
theorem words_row (F : Nat → Int) : wordsL 32 (rowL F) = sixW F := by
  unfold rowL sixW joinW joinW joinW joinW joinW joinW
  rw [words_app 32 _ _ (itoa_no _ (by decide)), words_app 32 _ _ (itoa_no _ (by decide)), words_app 32 _ _ (itoa_no _ (by decide)), words_app 32 _ _ (itoa_no _ (by decide)), words_app 32 _ _ (itoa_no _ (by decide)), words_one 32 _ (itoa_no _ (by decide))]
theorem row_no (F : Nat → Int) : (10 : UInt8) ∉ rowL F := by
  unfold rowL sixW joinW joinW joinW joinW joinW joinW
  have h0 := itoa_no (F 0) (m := 10) (by decide)
  have h1 := itoa_no (F 1) (m := 10) (by decide)
  have h2 := itoa_no (F 2) (m := 10) (by decide)
  have h3 := itoa_no (F 3) (m := 10) (by decide)
  have h4 := itoa_no (F 4) (m := 10) (by decide)
  have h5 := itoa_no (F 5) (m := 10) (by decide)
  simp [h0, h1, h2, h3, h4, h5]
theorem row_of_words {t : List UInt8} {F : Nat → Int} (h : wordsL 32 t = sixW F) : t = rowL F := by
  have := words_back 32 _ t (Nat.le_refl _)
  rw [h] at this
  exact this.symm
theorem itoa_inj18 {a b : Int} (ha : In18 a) (hb : In18 b) (h : Lib.itoa a = Lib.itoa b) : a = b := by
  have h1 := (read_back ha rfl).2.2.2
  have h2 := (read_back hb rfl).2.2.2
  rw [← h1, ← h2, h]
def In6 (F : Nat → Int) : Prop := ∀ j, j < 6 → In18 (F j)
theorem OkR.in6 {F : Nat → Int} (h : OkR F) : In6 F := by
  intro j hj
  unfold OkR at h
  unfold In18
  rcases (show j = 0 ∨ j = 1 ∨ j = 2 ∨ j = 3 ∨ j = 4 ∨ j = 5 by omega) with rfl | rfl | rfl | rfl | rfl | rfl <;> omega
theorem row_inj {F G : Nat → Int} (hF : In6 F) (hG : In6 G) (h : rowL F = rowL G) : ∀ j, j < 6 → F j = G j := by
  have e : sixW F = sixW G := by rw [← words_row F, ← words_row G, h]
  unfold sixW at e
  simp only [List.cons.injEq, and_true] at e
  obtain ⟨e0, e1, e2, e3, e4, e5⟩ := e
  intro j hj
  rcases (show j = 0 ∨ j = 1 ∨ j = 2 ∨ j = 3 ∨ j = 4 ∨ j = 5 by omega) with rfl | rfl | rfl | rfl | rfl | rfl
  · exact itoa_inj18 (hF 0 (by omega)) (hG 0 (by omega)) e0
  · exact itoa_inj18 (hF 1 (by omega)) (hG 1 (by omega)) e1
  · exact itoa_inj18 (hF 2 (by omega)) (hG 2 (by omega)) e2
  · exact itoa_inj18 (hF 3 (by omega)) (hG 3 (by omega)) e3
  · exact itoa_inj18 (hF 4 (by omega)) (hG 4 (by omega)) e4
  · exact itoa_inj18 (hF 5 (by omega)) (hG 5 (by omega)) e5
theorem pg_same {ls : List (List UInt8)} {k k' : Nat} {f f' : Nat → Nat → Int} (h : PG ls k f) (h' : PG ls k' f') {i : Nat} (hi : i < k) (hi' : i < k') : ∀ j, j < 6 → f i j = f' i j := by
  obtain ⟨a, b⟩ := h.2 i hi
  obtain ⟨a', b'⟩ := h'.2 i hi'
  rw [b] at b'
  exact row_inj a.in6 a'.in6 (Option.some.inj b')
theorem no_furtherC {ls : List (List UInt8)} {k k' : Nat} {f' : Nat → Nat → Int} (hn : NoL ls k) (h' : PG ls k' f') (hlt : k < k') : False := by
  obtain ⟨ho, b⟩ := h'.2 k hlt
  exact hn _ b _ ho (by have := h'.1; omega) rfl
theorem stopsC_same {ls : List (List UInt8)} {k k' : Nat} (h : StopsC ls k) (h' : StopsC ls k') : k = k' := by
  obtain ⟨⟨f, h1⟩, h2⟩ := h
  obtain ⟨⟨f', h1'⟩, h2'⟩ := h'
  rcases Nat.lt_trichotomy k k' with hlt | e | hlt
  · rcases h2 with ⟨_, hn⟩ | ⟨he, _⟩
    · exact (no_furtherC hn h1' hlt).elim
    · rcases h2' with ⟨hl, _⟩ | ⟨hl, _⟩ <;> omega
  · exact e
  · rcases h2' with ⟨_, hn⟩ | ⟨he, _⟩
    · exact (no_furtherC hn h1 hlt).elim
    · rcases h2 with ⟨hl, _⟩ | ⟨hl, _⟩ <;> omega
theorem wholeC_stops {ls : List (List UInt8)} {k k' : Nat} {f : Nat → Nat → Int} (h : WholeC ls k f) (h' : StopsC ls k') : False := by
  obtain ⟨h1, h2, h3, h4⟩ := h
  obtain ⟨_, ⟨hl, hn⟩ | ⟨hl, h0⟩⟩ := h'
  · exact no_furtherC hn h1 (by omega)
  · obtain rfl : k = k' := by omega
    rcases h0 with h0 | h0
    · omega
    · exact h0 h4
/-- A stack's text. -/
def formC (n : Nat) (f : Nat → Nat → Int) : List UInt8 := (List.range n).flatMap fun i => rowL (f i) ++ [10]
theorem formC_succ (k : Nat) (f : Nat → Nat → Int) : formC (k + 1) f = formC k f ++ (rowL (f k) ++ [10]) := by simp [formC, List.range_succ]
theorem formC_lines (k : Nat) (f : Nat → Nat → Int) : wordsL 10 (formC k f) = (List.range k).map (fun i => rowL (f i)) ++ [[]] := by
  rw [← words_lines _ (fun x hx => by obtain ⟨i, _, rfl⟩ := List.mem_map.1 hx; exact row_no _)]
  unfold formC
  rw [List.flatMap_map]
def GoodS (n : Nat) (f : Nat → Nat → Int) : Prop := 1 ≤ n ∧ n ≤ 60 ∧ ∀ k, k < n → OkR (f k)
theorem formC_whole {k : Nat} {f : Nat → Nat → Int} (h : GoodS k f) : WholeC (wordsL 10 (formC k f)) k f := by
  obtain ⟨h1, h2, h3⟩ := h
  rw [formC_lines]
  refine ⟨⟨h2, fun i hi => ⟨h3 i hi, ?_⟩⟩, by simp, h1, ?_⟩
  · rw [List.getElem?_append_left (by simpa using hi), List.getElem?_map, List.getElem?_range hi, Option.map_some]
  · rw [List.getElem?_append_right (by simp)]; simp
theorem wholeC_form {s : List UInt8} {k : Nat} {f : Nat → Nat → Int} (h : WholeC (wordsL 10 s) k f) : s = formC k f := by
  have e := words_back 10 _ s (Nat.le_refl _)
  obtain ⟨h1, h2, h3, h4⟩ := h
  have el : wordsL 10 s = (List.range k).map (fun i => rowL (f i)) ++ [[]] := by
    apply List.ext_getElem?
    intro i
    rcases Nat.lt_trichotomy i k with hi | hi | hi
    · rw [(h1.2 i hi).2, List.getElem?_append_left (by simpa using hi), List.getElem?_map, List.getElem?_range hi, Option.map_some]
    · subst hi
      rw [h4, List.getElem?_append_right (by simp)]
      simp
    · rw [List.getElem?_eq_none (by omega), List.getElem?_eq_none (by simp; omega)]
  rw [el, joinW_end] at e
  rw [← e]
  unfold formC
  rw [List.flatMap_map]
theorem wholeC_good {ls : List (List UInt8)} {k : Nat} {f : Nat → Nat → Int} (h : WholeC ls k f) : GoodS k f := ⟨h.2.2.1, h.1.1, fun i hi => (h.1.2 i hi).1⟩
theorem row_len {F : Nat → Int} (h : In6 F) : 1 ≤ (rowL F).length ∧ (rowL F).length ≤ 125 := by
  have b : ∀ j, j < 6 → (Lib.itoa (F j)).length ≤ 20 := fun j hj => by
    have := h j hj
    unfold In18 at this
    exact itoa_len (by omega) (by omega)
  have b0 := b 0 (by omega)
  have b1 := b 1 (by omega)
  have b2 := b 2 (by omega)
  have b3 := b 3 (by omega)
  have b4 := b 4 (by omega)
  have b5 := b 5 (by omega)
  simp only [rowL, sixW, joinW, List.length_append, List.length_cons]
  omega
theorem formC_len {f : Nat → Nat → Int} : ∀ {n : Nat}, (∀ i, i < n → In6 (f i)) → n ≤ (formC n f).length ∧ (formC n f).length ≤ n * 126
  | 0, _ => ⟨by omega, by simp [formC]⟩
  | n + 1, h => by
    have ih := formC_len (n := n) fun i hi => h i (by omega)
    have hl := row_len (h n (by omega))
    rw [formC_succ]
    simp only [List.length_append, List.length_cons, List.length_nil]
    omega
/-- One more row. -/
def putR (f : Nat → Nat → Int) (k : Nat) (F : Nat → Int) : Nat → Nat → Int := fun i => if i = k then F else f i
theorem putR_old {f : Nat → Nat → Int} {k i : Nat} (F : Nat → Int) (hi : i ≠ k) : putR f k F i = f i := by simp [putR, hi]
theorem putR_new (f : Nat → Nat → Int) (k : Nat) (F : Nat → Int) : putR f k F k = F := by simp [putR]
theorem PG.put {ls : List (List UInt8)} {k : Nat} {f : Nat → Nat → Int} {F : Nat → Int} (hp : PG ls k f) (ht : ls[k]? = some (rowL F)) (hF : OkR F) (hk : k < 60) : PG ls (k + 1) (putR f k F) := by
  refine ⟨by omega, fun i hi => ?_⟩
  rcases Nat.lt_or_ge i k with h4 | h4
  · rw [putR_old F (by omega)]
    exact hp.2 i h4
  · obtain rfl : i = k := by omega
    rw [putR_new]
    exact ⟨hF, ht⟩
end Go.Proofs.YtcaelmaoldmgpaaDoor
