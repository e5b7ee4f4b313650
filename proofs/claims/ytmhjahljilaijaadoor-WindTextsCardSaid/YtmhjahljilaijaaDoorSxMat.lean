/- Gusts' texts: the mathematics. -/
import Derived.Test.YtmhjahljilaijaaDoorSxPar
import Derived.Test.YtmhjahljilaijaaDoorSxNum
import Derived.Test.YtmhjahljilaijaaDoorSxCut
namespace Go.Proofs.YtmhjahljilaijaaDoor.Tx
open Go.Proofs.YtmhjahljilaijaaDoor

theorem join_two (x : List UInt8) (ws : List (List UInt8)) (h : ws ≠ []) : Lib.join (x :: ws) [32] = x ++ (32 :: Lib.join ws [32]) := by
  cases ws with
  | nil => exact absurd rfl h
  | cons y r => simp [Lib.join, List.intercalate]
theorem join_one (x : List UInt8) : Lib.join [x] [32] = x := by simp [Lib.join, List.intercalate]
theorem join_joinW : ∀ ws : List (List UInt8), ws ≠ [] → Lib.join ws [32] = joinW 32 ws
  | [], h => absurd rfl h
  | [x], _ => by rw [join_one]; rfl
  | x :: y :: r, _ => by
    rw [join_two x (y :: r) (by simp), join_joinW (y :: r) (by simp), joinW_cons 32 x (by simp)]
theorem join_snoc (ws : List (List UInt8)) (x : List UInt8) (h : ws ≠ []) : Lib.join (ws ++ [x]) [32] = Lib.join ws [32] ++ (32 :: x) := by
  induction ws with
  | nil => exact absurd rfl h
  | cons y r ih =>
    cases r with
    | nil => rw [List.cons_append, join_two _ _ (by simp), join_one]; simp [join_one]
    | cons z r' =>
      rw [List.cons_append, join_two y _ (by simp), join_two y (z :: r') (by simp), ih (by simp)]
      simp
theorem words_join : ∀ ws : List (List UInt8), ws ≠ [] → (∀ x ∈ ws, (32 : UInt8) ∉ x) → wordsL 32 (Lib.join ws [32]) = ws
  | [], h, _ => absurd rfl h
  | [x], _, hx => by rw [join_one]; exact words_one 32 x (hx x (by simp))
  | x :: y :: r, _, hx => by
    rw [join_two x (y :: r) (by simp), words_app 32 x _ (hx x (by simp)), words_join (y :: r) (by simp) fun z hz => hx z (List.mem_cons_of_mem _ hz)]
theorem gw_no {x : Int} : (32 : UInt8) ∉ gw x := by
  unfold gw
  split
  · decide
  · exact itoa_no x (by decide)
theorem gw_pos (x : Int) : 0 < (gw x).length := by
  unfold gw
  split
  · simp
  · unfold Lib.itoa
    split
    · simp
    · have := dec_pos x.toNat; omega
/-- A word that the reference reads. -/
def OkW (s : List UInt8) : Prop := s = [45] ∨ ∃ x : Int, 0 ≤ x ∧ In15 x ∧ Lib.itoa x = s
theorem rgF_itoa {x : Int} (h0 : 0 ≤ x) (h : In15 x) (hs : Lib.itoa x ≠ [45]) : rgF (Lib.itoa x) = x := by
  unfold rgF
  rw [if_neg hs]
  exact atoiV_itoa (by unfold In15 at h; unfold I64; omega)
theorem itoa_inj {x y : Int} (hx : In15 x) (hy : In15 y) (h : Lib.itoa x = Lib.itoa y) : x = y := by
  have h1 := atoiV_itoa (n := x) (by unfold In15 at hx; unfold I64; omega)
  have h2 := atoiV_itoa (n := y) (by unfold In15 at hy; unfold I64; omega)
  rw [h] at h1
  omega
theorem gw_rgF {s : List UInt8} (h : OkW s) : gw (rgF s) = s := by
  by_cases h45 : s = [45]
  · subst h45
    rfl
  · rcases h with h | ⟨x, h0, h1, rfl⟩
    · exact absurd h h45
    · rw [rgF_itoa h0 h1 h45]
      unfold gw
      rw [if_neg (by omega)]
theorem rgF_gw {x : Int} (h : OkG x) : rgF (gw x) = x ∧ OkW (gw x) := by
  unfold OkG Btw at h
  by_cases h1 : x = -1
  · subst h1
    exact ⟨rfl, .inl rfl⟩
  · have e : gw x = Lib.itoa x := if_neg h1
    have hne : Lib.itoa x ≠ [45] := fun e => by
      have hp := dec_pos x.toNat
      have hd := dec_dgt x.toNat
      have e2 : Lib.itoa x = Lib.decDigits x.toNat := by unfold Lib.itoa; rw [if_neg (by omega)]
      rw [e2] at e
      have := hd 45 (by rw [e]; simp)
      unfold dgt at this
      exact absurd this.1 (by decide)
    have h15 : In15 x := by unfold In15; omega
    rw [e]
    exact ⟨rgF_itoa (by omega) h15 hne, .inr ⟨x, by omega, h15, rfl⟩⟩
/-- A text of valid gusts. -/
def GB (s : List UInt8) : Prop := (∀ x ∈ wordsL 32 s, OkW x) ∧ GoodG (wordsL 32 s).length (fun i => (rgs (wordsL 32 s)).getD i 0)
theorem rgs_at {ws : List (List UInt8)} {i : Nat} (h : i < ws.length) : (rgs ws).getD i 0 = rgF ws[i] := by simp [rgs, h]
theorem gws_rgs {ws : List (List UInt8)} (h : ∀ x ∈ ws, OkW x) : gws (fun i => (rgs ws).getD i 0) ws.length = ws := by
  unfold gws
  apply List.ext_getElem
  · simp
  · intro i h1 h2
    simp only [List.getElem_map, List.getElem_range]
    rw [rgs_at h2]
    exact gw_rgF (h _ (List.getElem_mem h2))
theorem words_ne (s : List UInt8) : wordsL 32 s ≠ [] := by simp [wordsL]
theorem formG_iff {s : List UInt8} (h0 : s ≠ []) : formG (wordsL 32 s).length (fun i => (rgs (wordsL 32 s)).getD i 0) = s ↔ GB s := by
  constructor
  · intro h
    unfold formG at h
    by_cases hG : GoodG (wordsL 32 s).length (fun i => (rgs (wordsL 32 s)).getD i 0)
    · rw [if_pos hG] at h
      have hn : gws (fun i => (rgs (wordsL 32 s)).getD i 0) (wordsL 32 s).length ≠ [] := fun e => by
        have := congrArg List.length e
        rw [gws_len] at this
        exact words_ne s (List.eq_nil_of_length_eq_zero this)
      have hw := words_join _ hn (fun x hx => by
        obtain ⟨i, _, rfl⟩ := List.mem_map.1 hx
        exact gw_no)
      rw [h] at hw
      refine ⟨fun x hx => ?_, hG⟩
      rw [hw] at hx
      obtain ⟨i, hi, rfl⟩ := List.mem_map.1 hx
      exact (rgF_gw (hG.2 i (List.mem_range.1 hi))).2
    · rw [if_neg hG] at h
      exact absurd h.symm h0
  · rintro ⟨h1, h2⟩
    unfold formG
    rw [if_pos h2, gws_rgs h1, join_joinW _ (words_ne s)]
    exact words_back 32 _ s (Nat.le_refl _)
/-- A written text is read back. -/
theorem form_back {n : Nat} {f : Nat → Int} (h : GoodG n f) (hn : 0 < n) : formG n f ≠ [] ∧ wordsL 32 (formG n f) = gws f n ∧ GB (formG n f) ∧ ∀ i, i < n → (rgs (gws f n)).getD i 0 = f i := by
  have e : formG n f = Lib.join (gws f n) [32] := if_pos h
  have hne : gws f n ≠ [] := fun e => by have := congrArg List.length e; rw [gws_len] at this; simp at this; omega
  have hw : wordsL 32 (formG n f) = gws f n := by
    rw [e]
    exact words_join _ hne (fun x hx => by
      obtain ⟨i, _, rfl⟩ := List.mem_map.1 hx
      exact gw_no)
  have hr : ∀ i, i < n → (rgs (gws f n)).getD i 0 = f i := fun i hi => by
    rw [rgs_at (by rw [gws_len]; exact hi)]
    simp only [gws, List.getElem_map, List.getElem_range]
    exact (rgF_gw (h.2 i hi)).1
  have hg : GoodG n (fun i => (rgs (gws f n)).getD i 0) := ⟨h.1, fun i hi => by show OkG ((rgs (gws f n)).getD i 0); rw [hr i hi]; exact h.2 i hi⟩
  refine ⟨fun e0 => ?_, hw, ⟨fun x hx => ?_, by rw [hw, gws_len]; exact hg⟩, hr⟩
  · rw [e0] at hw
    have h1 := hw.symm.trans (show wordsL 32 [] = [[]] from rfl)
    have h2 : gw (f 0) ∈ gws f n := List.mem_map.2 ⟨0, List.mem_range.2 hn, rfl⟩
    rw [h1] at h2
    have h3 := List.mem_singleton.1 h2
    have := gw_pos (f 0)
    rw [h3] at this
    simp at this
  · rw [hw] at hx
    obtain ⟨i, hi, rfl⟩ := List.mem_map.1 hx
    exact (rgF_gw (h.2 i (List.mem_range.1 hi))).2
end Go.Proofs.YtmhjahljilaijaaDoor.Tx
