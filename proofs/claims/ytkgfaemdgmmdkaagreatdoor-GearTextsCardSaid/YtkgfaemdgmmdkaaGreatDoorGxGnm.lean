/- Names: what a mark or a batch may be, as the reference and as the program asks it. -/
import Derived.Test.YtkgfaemdgmmdkaaGreatDoorGxGtx
import Derived.Shelf.Strings.SlTrimAscii
namespace Go.Proofs.YtkgfaemdgmmdkaaGreatDoor.Gx
open Go.Proofs.YtkgfaemdgmmdkaaGreatDoor

def smC (c : UInt8) : Bool := decide (97 ≤ c.toNat) && decide (c.toNat ≤ 122)
def otC (c : UInt8) : Bool := decide (c.toNat = 95) || (decide (48 ≤ c.toNat) && decide (c.toNat ≤ 57))
/-- A name. -/
def nmB (s : List UInt8) : Bool := decide (1 ≤ s.length) && decide (s.length ≤ 16) && s.head?.any smC && s.all fun c => smC c || otC c
/-- The bytes before the k-th one are as they must be. -/
def NmTo (s : List UInt8) (k : Nat) : Prop := ∀ i c, i < k → s[i]? = some c → (smC c = true ∨ (i ≠ 0 ∧ otC c = true))
theorem nmTo_zero (s : List UInt8) : NmTo s 0 := fun i c h _ => by omega
theorem nmTo_succ {s : List UInt8} {k : Nat} {c : UInt8} (h : NmTo s k) (hc : s[k]? = some c) (h1 : smC c = true ∨ (k ≠ 0 ∧ otC c = true)) : NmTo s (k + 1) := fun i d hi hd => by
  by_cases e : i = k
  · subst e
    rw [hc] at hd
    cases hd
    exact h1
  · exact h i d (by omega) hd
theorem nmB_to {s : List UInt8} (h : NmTo s s.length) : nmB s = (decide (1 ≤ s.length) && decide (s.length ≤ 16)) := by
  unfold nmB
  cases s with
  | nil => rfl
  | cons c cs =>
    have h0 : smC c = true := by
      rcases h 0 c (by simp) rfl with h1 | h1
      · exact h1
      · exact absurd rfl h1.1
    have ha : ((c :: cs).all fun c => smC c || otC c) = true := List.all_eq_true.2 fun d hd => by
      obtain ⟨i, hi, e⟩ := List.getElem_of_mem hd
      rcases h i d hi (by rw [List.getElem?_eq_getElem hi, e]) with h1 | h1
      · simp [h1]
      · simp [h1.2]
    rw [ha]
    simp [h0]
theorem nmB_not {s : List UInt8} {k : Nat} {c : UInt8} (hc : s[k]? = some c) (h1 : smC c = false) (h2 : k = 0 ∨ otC c = false) : nmB s = false := by
  cases h : nmB s with
  | false => rfl
  | true =>
    exfalso
    unfold nmB at h
    simp only [Bool.and_eq_true] at h
    obtain ⟨⟨_, h3⟩, h4⟩ := h
    rcases h2 with rfl | h2
    · cases s with
      | nil => simp at hc
      | cons d ds =>
        simp at hc h3
        subst hc
        rw [h1] at h3
        cases h3
    · have h5 := List.all_eq_true.1 h4 c (List.mem_of_getElem? hc)
      simp [h1, h2] at h5

/-- The program's set of bytes. -/
def nmSet : List UInt8 := [97, 98, 99, 100, 101, 102, 103, 104, 105, 106, 107, 108, 109, 110, 111, 112, 113, 114, 115, 116, 117, 118, 119, 120, 121, 122, 48, 49, 50, 51, 52, 53, 54, 55, 56, 57, 95]
theorem nmSet_has (c : UInt8) : nmSet.contains c = (smC c || otC c) := by
  have h : ∀ n : Fin 256, nmSet.contains (UInt8.ofNat n.val) = (smC (UInt8.ofNat n.val) || otC (UInt8.ofNat n.val)) := by decide +kernel
  have h1 := h ⟨c.toNat, c.toNat_lt⟩
  simpa using h1
def nmLow : List UInt8 := [97, 98, 99, 100, 101, 102, 103, 104, 105, 106, 107, 108, 109, 110, 111, 112, 113, 114, 115, 116, 117, 118, 119, 120, 121, 122]
theorem nmLow_has (c : UInt8) : nmLow.contains c = smC c := by
  have h : ∀ n : Fin 256, nmLow.contains (UInt8.ofNat n.val) = smC (UInt8.ofNat n.val) := by decide +kernel
  have h1 := h ⟨c.toNat, c.toNat_lt⟩
  simpa using h1
theorem drop_all {p : UInt8 → Bool} : ∀ {l : List UInt8}, (∀ b ∈ l.dropWhile p, p b = true) → l.dropWhile p = []
  | [], _ => rfl
  | x :: xs, h => by
    by_cases hx : p x = true
    · rw [List.dropWhile_cons_of_pos hx] at h ⊢
      exact drop_all h
    · rw [List.dropWhile_cons_of_neg hx] at h
      exact absurd (h x (by simp)) hx
theorem drop_nil {p : UInt8 → Bool} : ∀ {l : List UInt8}, l.dropWhile p = [] ↔ ∀ b ∈ l, p b = true
  | [] => by simp
  | x :: xs => by
    by_cases hx : p x = true
    · rw [List.dropWhile_cons_of_pos hx, drop_nil]
      simp [hx]
    · rw [List.dropWhile_cons_of_neg hx]
      simp [hx]
theorem trimS_nil {l cs : List UInt8} : Lib.trimS l cs = [] ↔ ∀ b ∈ l, cs.contains b = true := by
  unfold Lib.trimS Lib.trimLeftS Lib.trimRightS
  constructor
  · intro h b hb
    rw [drop_nil] at h
    have h1 := drop_all (p := (cs.contains ·)) (l := l.reverse) (fun b hb => h b (by simpa using hb))
    rw [drop_nil] at h1
    exact h1 b (by simpa using hb)
  · intro h
    have h1 : l.reverse.dropWhile (cs.contains ·) = [] := drop_nil.2 fun b hb => h b (by simpa using hb)
    rw [h1]; rfl
/-- What the program asks. -/
theorem nmB_prog (s : List UInt8) : nmB s = (decide (1 ≤ s.length) && decide (s.length ≤ 16) && s.head?.any (nmLow.contains ·) && decide (Lib.trimS s nmSet = [])) := by
  unfold nmB
  have h1 : s.head?.any (nmLow.contains ·) = s.head?.any smC := by cases s.head? with | none => rfl | some v => exact nmLow_has v
  have h2 : decide (Lib.trimS s nmSet = []) = s.all fun c => smC c || otC c := by
    rw [Bool.eq_iff_iff, decide_eq_true_iff, trimS_nil, List.all_eq_true]
    exact ⟨fun h b hb => by rw [← nmSet_has]; exact h b hb, fun h b hb => by rw [nmSet_has]; exact h b hb⟩
  rw [h1, h2]
end Go.Proofs.YtkgfaemdgmmdkaaGreatDoor.Gx
