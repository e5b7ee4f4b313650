/- Bounds in the reference, as mathematics: its own states, the tallies of them minute by minute. -/
import Derived.Test.YtfmoedlnjlkiiaaDoorWbm
import Derived.Test.YtfmoedlnjlkiiaaDoorWdr
namespace Go.Proofs.YtfmoedlnjlkiiaaDoor

/-- How long work waits in the reference's r-th state (one more than its own number). -/
def winv (c : Int) (r : Nat) : Int := if r = 0 then 0 else c + 1 - r
theorem winv_bd {c : Int} (hc : 1 ≤ c) {r : Nat} (hr : (r : Int) ≤ c) : 0 ≤ winv c r ∧ winv c r ≤ c := by unfold winv; split <;> omega
theorem stW_winv {c : Int} {r : Nat} (hr : (r : Int) ≤ c) : stW c (winv c r) = r - 1 := by
  unfold stW winv
  by_cases h : r = 0
  · subst h; simp
  · rw [if_neg h, if_neg (by omega)]; omega
theorem winv_inj {c : Int} {r r' : Nat} (hr : (r : Int) ≤ c) (hr' : (r' : Int) ≤ c) (h : winv c r = winv c r') : r = r' := by
  unfold winv at h
  split at h <;> split at h <;> omega
theorem winv_of {c v : Int} (hv : 0 ≤ v ∧ v ≤ c) : ∃ r : Nat, (r : Int) ≤ c ∧ winv c r = v ∧ (r : Int) = stW c v + 1 := by
  unfold stW winv
  by_cases h : v = 0
  · exact ⟨0, by omega, by rw [if_pos rfl]; omega, by rw [if_pos h]; rfl⟩
  · exact ⟨(c + 1 - v).toNat, by omega, by rw [if_neg (by omega)]; omega, by rw [if_neg h]; omega⟩
/-- Where the reference's state goes, and whether work goes. -/
theorem nxS_winv {s g c x : Int} (hc : 1 ≤ c) {r : Nat} (hr : (r : Int) ≤ c) (hx : -1 ≤ x) :
    ∃ r' : Nat, (r' : Int) ≤ c ∧ nxS s g c (r - 1) x + 1 = r' ∧ nxW s g c (winv c r) x = winv c r' ∧ goD (winv c r) (winv c r') = if gxS s (r - 1) x = true then 1 else 0 := by
  have hb := winv_bd hc hr
  have hn : 0 ≤ nxW s g c (winv c r) x ∧ nxW s g c (winv c r) x ≤ c := by unfold nxW; split <;> split <;> omega
  obtain ⟨r', h1, h2, h3⟩ := winv_of hn
  refine ⟨r', h1, ?_, h2.symm, ?_⟩
  · rw [h3, ← nxS_st hc hb hx, stW_winv hr]
  · rw [h2]
    unfold goD gxS
    rw [← stW_winv hr]
    unfold nxW stW
    by_cases h0 : winv c r = 0
    · simp only [h0, if_true, true_and]
      by_cases h1 : x = -1 ∨ s ≤ x
      · rw [if_pos h1, decide_eq_true (show x < 0 ∨ s ≤ x by omega), if_neg (by omega)]; simp
      · rw [if_neg h1, decide_eq_false (show ¬ (x < 0 ∨ s ≤ x) by omega)]; simp
    · rw [if_neg (fun h => h0 h.1), if_neg h0, decide_eq_false (show ¬ c - winv c r < 0 by omega)]; simp

def DkR (n : Nat) (f : Nat → Int) (c : Int) (k j : Nat) (w x : Int) : Prop := (∃ r, r < k ∧ w = winv c r ∧ ∃ i, i < n ∧ x = f i) ∨ (w = winv c k ∧ ∃ i, i < j ∧ x = f i)
def RepR (s g c : Int) (S : Int → Int → Prop) (n : Nat) (f : Nat → Int) (k j : Nat) (T : Nat → Ty) : Prop := ∀ v : Nat, (v : Int) ≤ c → Rep (Acc s g c S (DkR n f c k j) (winv c v)) (T v)
section
variable {s g c : Int} {S : Int → Int → Prop} {n : Nat} {f : Nat → Int} {k j : Nat} {T : Nat → Ty}
theorem rr_zero : RepR s g c S n f 0 0 fun _ => none := fun v _ m h => by
  obtain ⟨w, x, h | h, _⟩ := h
  · obtain ⟨r, h1, _⟩ := h; omega
  · obtain ⟨_, i, hi, _⟩ := h; omega
theorem dkR_succ (w x : Int) : DkR n f c k (j + 1) w x ↔ (DkR n f c k j w x ∨ (w = winv c k ∧ x = f j)) := by
  unfold DkR
  constructor
  · rintro (h | ⟨h1, i, hi, h2⟩)
    · exact .inl (.inl h)
    · by_cases e : i = j
      · subst e; exact .inr ⟨h1, h2⟩
      · exact .inl (.inr ⟨h1, i, by omega, h2⟩)
  · rintro ((h | ⟨h1, i, hi, h2⟩) | ⟨h1, h2⟩)
    · exact .inl h
    · exact .inr ⟨h1, i, by omega, h2⟩
    · exact .inr ⟨h1, j, by omega, h2⟩
theorem rr_step {u : Ty} (h : RepR s g c S n f k j T) (hu : Rep (S (winv c k)) u) {v : Nat} (hvc : (v : Int) ≤ c) (hv : nxW s g c (winv c k) (f j) = winv c v) :
    RepR s g c S n f k (j + 1) (setT T v (orT (T v) (wiT (goD (winv c k) (winv c v)) u))) := by
  intro v' hv'
  have e : ∀ m, Acc s g c S (fun w' x' => DkR n f c k j w' x' ∨ (w' = winv c k ∧ x' = f j)) (winv c v') m ↔ Acc s g c S (DkR n f c k (j + 1)) (winv c v') m := fun m => acc_iff fun w x => (dkR_succ w x).symm
  unfold setT
  by_cases hvv : v' = v
  · subst hvv
    rw [if_pos rfl]
    exact rep_iff (rep_step (h v' hv') hu hv) e
  · rw [if_neg hvv]
    exact rep_iff (rep_stay (h v' hv') (fun e => hvv (winv_inj hv' hvc (e.symm.trans hv)))) e
theorem rr_next (h : RepR s g c S n f k n T) : RepR s g c S n f (k + 1) 0 T := fun v hv => rep_iff (h v hv) fun m => acc_iff fun w x => by
  unfold DkR
  constructor
  · rintro (⟨r, h1, h2, h3⟩ | ⟨h1, h3⟩)
    · exact .inl ⟨r, by omega, h2, h3⟩
    · exact .inl ⟨k, by omega, h1, h3⟩
  · rintro (⟨r, h1, h2, h3⟩ | ⟨_, i, hi, _⟩)
    · by_cases e : r = k
      · subst e; exact .inr ⟨h2, h3⟩
      · exact .inl ⟨r, by omega, h2, h3⟩
    · omega
theorem rr_skip (hs : ∀ m, ¬ S (winv c k) m) (h : RepR s g c S n f k 0 T) : RepR s g c S n f (k + 1) 0 T := fun v hv => rep_skip (h v hv) (fun w x hw => by
  rcases hw with ⟨r, h1, h2, h3⟩ | ⟨_, i, hi, _⟩
  · by_cases e : r = k
    · subst e; rw [h2]; exact .inr hs
    · exact .inl (.inl ⟨r, by omega, h2, h3⟩)
  · omega) (fun w x hw => by
  rcases hw with ⟨r, h1, h2, h3⟩ | ⟨_, i, hi, _⟩
  · exact .inl ⟨r, by omega, h2, h3⟩
  · omega)
theorem rr_end {N : Nat} (hN : c + 1 = N) (hS : ∀ v m, S v m → 0 ≤ v ∧ v ≤ c) (h : RepR s g c S n f N 0 T) (v : Nat) (hv : (v : Int) ≤ c) : Rep (Acc s g c S (fun _ x => ∃ i, i < n ∧ x = f i) (winv c v)) (T v) := rep_skip (h v hv) (fun w x hw => by
  by_cases e : 0 ≤ w ∧ w ≤ c
  · obtain ⟨r, h1, h2, _⟩ := winv_of e
    exact .inl (.inl ⟨r, by omega, h2.symm, hw⟩)
  · exact .inr fun m hm => e (hS _ _ hm)) (fun w x hw => by
  rcases hw with ⟨r, h1, h2, h3⟩ | ⟨_, i, hi, _⟩
  · exact h3
  · omega)
end
/-- The reference's two numbers of a state. -/
def loN : Ty → Int
  | none => -1
  | some p => p.1
def hiN : Ty → Int
  | none => -1
  | some p => p.2
theorem lo_or {t : Ty} {a b : Int} (ht : ∀ p, t = some p → 0 ≤ p.1) : loN (orT t (some (a, b))) = if loN t < 0 ∨ a < loN t then a else loN t := by
  cases t with
  | none => rfl
  | some p =>
    have := ht p rfl
    show min p.1 a = if p.1 < 0 ∨ a < p.1 then a else p.1
    split <;> omega
theorem hi_or {t : Ty} {a b : Int} (hb : 0 ≤ b) : hiN (orT t (some (a, b))) = if hiN t < b then b else hiN t := by
  cases t with
  | none => show b = if (-1 : Int) < b then b else -1; rw [if_pos (by omega)]
  | some p =>
    show max p.2 b = if p.2 < b then b else p.2
    split <;> omega
end Go.Proofs.YtfmoedlnjlkiiaaDoor
