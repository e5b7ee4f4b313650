/- What both Parses answer of a text. -/
import Derived.Test.YtmhjahljilaijaaDoorSxRef
namespace Go.Proofs.YtmhjahljilaijaaDoor.Tx
open Go.Proofs.YtmhjahljilaijaaDoor
open Go.RowKit

def OkT (s : List UInt8) : Prop := s = [] ∨ GB s
def ltT (s : List UInt8) : List Int := if s = [] then [] else rgs (wordsL 32 s)
theorem ltT_nil : ltT [] = [] := rfl
theorem ltT_ne {s : List UInt8} (h : s ≠ []) : ltT s = rgs (wordsL 32 s) := if_neg h
/-- What Parse answers. -/
def PS (w w' : World) (s : List UInt8) (b : Bool) (e : Ending) : Prop := match b with
  | true => ∃ v, e = .returned (.tuple #[v, .int .i64 0]) ∧ w'.ownsRow w.heap.size 3 1 v (ltT s).length (nvs (ltT s))
  | false => e = .returned (.tuple #[.slice none 0 0, .int .i64 2])
theorem ps_words {w w' : World} {s : List UInt8} {b : Bool} {e : Ending} (h0 : s ≠ []) (h : PWd w w' (wordsL 32 s) b e) : PS w w' s b e := by
  cases b with
  | false => exact h
  | true =>
    obtain ⟨v, h1, h2⟩ := h
    refine ⟨v, h1, ?_⟩
    rw [ltT_ne h0, rgs_len]
    exact h2
theorem okT_form {s : List UInt8} (h : OkT s) : formG (ltT s).length (fun i => (ltT s).getD i 0) = s := by
  by_cases h0 : s = []
  · subst h0
    unfold formG
    rw [if_pos ⟨by simp [ltT], fun k hk => absurd hk (by simp [ltT])⟩]
    rfl
  · rcases h with h | h
    · exact absurd h h0
    · rw [ltT_ne h0, rgs_len]
      exact (formG_iff h0).2 h
theorem format_back {s : List UInt8} (h : OkT s) (a : Option Addr) (c : Nat) (W : World) (hin : IAt W a (ltT s).length (fun i => (ltT s).getD i 0)) (hS : Stw W) :
    Calls Tryd.prog 6 #[.slice a (ltT s).length c] W fun e w' => e = .returned (.string (tx s)) ∧ Below W.heap.size W w' := by
  have := formatG_any a (ltT s).length c _ W hin hS
  rw [okT_form h] at this
  exact this
theorem form_ok {n : Nat} {f : Nat → Int} (h : GoodG n f) : OkT (formG n f) ∧ (ltT (formG n f)).length = n ∧ ∀ i, i < n → (ltT (formG n f)).getD i 0 = f i := by
  rcases Nat.eq_zero_or_pos n with rfl | hn
  · have e : formG 0 f = [] := by unfold formG; rw [if_pos h]; rfl
    rw [e]
    exact ⟨.inl rfl, rfl, fun i hi => absurd hi (by omega)⟩
  · obtain ⟨h1, h2, h3, h4⟩ := form_back h hn
    refine ⟨.inr h3, ?_, fun i hi => ?_⟩
    · rw [ltT_ne h1, h2, rgs_len, gws_len]
    · rw [ltT_ne h1, h2]; exact h4 i hi
theorem parse_say (s : List UInt8) (b : Bool) (hb : b = true ↔ OkT s) (w : World) (hs : s.length ≤ 65536) (hS : Stx w) :
    Calls Tryd.prog 7 #[.string (tx s)] w fun e w' => PS w w' s b e ∧ Below w.heap.size w w' := by
  by_cases h0 : s = []
  · subst h0
    obtain rfl : b = true := hb.2 (.inl rfl)
    exact (parse_none w).mono fun e w' ⟨h1, h2⟩ => ⟨⟨_, h1, World.ownsRow_nil _ _ _ _⟩, h2⟩
  · have hbg : b = true ↔ GB s := ⟨fun h => (hb.1 h).elim (fun e => absurd e h0) id, fun h => hb.2 (.inr h)⟩
    have hf : (formG (wordsL 32 s).length (fun i => (rgs (wordsL 32 s)).getD i 0) == s) = b := by
      rw [Bool.eq_iff_iff, beq_iff_eq, formG_iff h0, hbg]
    exact (parse_words s w hs h0 hS _ b hf (fun a cap W hW hin => formatG_any a _ cap _ W hin (hS.on hW).stw)).mono fun e w' ⟨h1, h2⟩ => ⟨ps_words h0 h1, h2⟩
theorem rparse_say (s : List UInt8) (b : Bool) (hb : b = true ↔ OkT s) (w : World) (hs : s.length ≤ 65536) :
    Calls Tryd.prog 8 #[.string (tx s)] w fun e w' => PS w w' s b e ∧ Below w.heap.size w w' := by
  by_cases h0 : s = []
  · subst h0
    obtain rfl : b = true := hb.2 (.inl rfl)
    exact (rparse_none w).mono fun e w' ⟨h1, h2⟩ => ⟨⟨_, h1, World.ownsRow_nil _ _ _ _⟩, h2⟩
  · have hbg : b = true ↔ GB s := ⟨fun h => (hb.1 h).elim (fun e => absurd e h0) id, fun h => hb.2 (.inr h)⟩
    exact (rparse_words s w hs h0 b hbg).mono fun e w' ⟨h1, h2⟩ => ⟨ps_words h0 h1, h2⟩
end Go.Proofs.YtmhjahljilaijaaDoor.Tx
