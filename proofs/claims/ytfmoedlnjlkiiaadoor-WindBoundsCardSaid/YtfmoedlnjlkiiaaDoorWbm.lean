/- Bounds as mathematics: tallies of sets, and the sets of the minutes in which work can have gone. -/
import Derived.Test.YtfmoedlnjlkiiaaDoorWdm
namespace Go.Proofs.YtfmoedlnjlkiiaaDoor

/-- None, or the least and the greatest. -/
abbrev Ty := Option (Int × Int)
def orT : Ty → Ty → Ty
  | none, u => u
  | some p, none => some p
  | some p, some q => some (min p.1 q.1, max p.2 q.2)
def wiT (d : Int) : Ty → Ty
  | none => none
  | some p => some (p.1 + d, p.2 + d)
/-- A tally says what a set is. -/
def Rep (S : Int → Prop) : Ty → Prop
  | none => ∀ m, ¬ S m
  | some p => S p.1 ∧ S p.2 ∧ ∀ m, S m → p.1 ≤ m ∧ m ≤ p.2
theorem rep_same {S : Int → Prop} {t u : Ty} (h : Rep S t) (h' : Rep S u) : t = u := by
  cases t with
  | none => cases u with
    | none => rfl
    | some q => exact absurd h'.1 (h _)
  | some p => cases u with
    | none => exact absurd h.1 (h' _)
    | some q =>
      obtain ⟨a1, a2, a3⟩ := h
      obtain ⟨b1, b2, b3⟩ := h'
      have := a3 _ b1; have := a3 _ b2; have := b3 _ a1; have := b3 _ a2
      exact congrArg some (Prod.ext (by omega) (by omega))
theorem rep_iff {S S' : Int → Prop} {t : Ty} (h : Rep S t) (e : ∀ m, S m ↔ S' m) : Rep S' t := by
  have : S = S' := funext fun m => propext (e m)
  rw [← this]; exact h
theorem rep_or {S S' : Int → Prop} {t u : Ty} (h : Rep S t) (h' : Rep S' u) : Rep (fun m => S m ∨ S' m) (orT t u) := by
  cases t with
  | none => exact rep_iff h' fun m => ⟨.inr, fun x => x.resolve_left (h m)⟩
  | some p => cases u with
    | none => exact rep_iff h fun m => ⟨.inl, fun x => x.resolve_right (h' m)⟩
    | some q =>
      obtain ⟨a1, a2, a3⟩ := h
      obtain ⟨b1, b2, b3⟩ := h'
      have e1 : min p.1 q.1 = p.1 ∨ min p.1 q.1 = q.1 := by omega
      have e2 : max p.2 q.2 = p.2 ∨ max p.2 q.2 = q.2 := by omega
      refine ⟨?_, ?_, ?_⟩
      · dsimp only
        rcases e1 with e | e
        · rw [e]; exact .inl a1
        · rw [e]; exact .inr b1
      · dsimp only
        rcases e2 with e | e
        · rw [e]; exact .inl a2
        · rw [e]; exact .inr b2
      · rintro m (hm | hm)
        · have := a3 m hm; dsimp only; omega
        · have := b3 m hm; dsimp only; omega
theorem rep_wi {S : Int → Prop} {t : Ty} (d : Int) (h : Rep S t) : Rep (fun m => ∃ m0, S m0 ∧ m = m0 + d) (wiT d t) := by
  cases t with
  | none => rintro m ⟨m0, hm, _⟩; exact h _ hm
  | some p =>
    obtain ⟨a1, a2, a3⟩ := h
    refine ⟨⟨_, a1, rfl⟩, ⟨_, a2, rfl⟩, ?_⟩
    rintro m ⟨m0, hm, rfl⟩
    have := a3 _ hm
    show p.1 + d ≤ _ ∧ _ ≤ p.2 + d
    omega

/-- Work goes in a minute. -/
def goD (w v : Int) : Int := if w = 0 ∧ v = 0 then 1 else 0
/-- What a minute with one of some gusts makes of the sets: of what states, with which of the gusts, is said. -/
def Acc (s g c : Int) (S : Int → Int → Prop) (D : Int → Int → Prop) (v m : Int) : Prop :=
  ∃ w x, D w x ∧ ∃ m0, S w m0 ∧ nxW s g c w x = v ∧ m = m0 + goD w v
/-- The gusts that a minute can have had. -/
def Can (y x : Int) : Prop := if y = -1 then 0 ≤ x ∧ x ≤ 200 else x = y
/-- The states behind k minutes, each with the minutes in which work can have gone. -/
def SS (s g c : Int) (f : Nat → Int) : Nat → Int → Int → Prop
  | 0 => fun v m => v = 0 ∧ m = 0
  | k + 1 => Acc s g c (SS s g c f k) fun _ x => Can (f k) x
theorem acc_or {s g c : Int} {S D D' : Int → Int → Prop} {v m : Int} : Acc s g c S (fun w x => D w x ∨ D' w x) v m ↔ (Acc s g c S D v m ∨ Acc s g c S D' v m) := by
  constructor
  · rintro ⟨w, x, h | h, r⟩
    · exact .inl ⟨w, x, h, r⟩
    · exact .inr ⟨w, x, h, r⟩
  · rintro (⟨w, x, h, r⟩ | ⟨w, x, h, r⟩)
    · exact ⟨w, x, .inl h, r⟩
    · exact ⟨w, x, .inr h, r⟩
theorem acc_iff {s g c : Int} {S D D' : Int → Int → Prop} (e : ∀ w x, D w x ↔ D' w x) {v m : Int} : Acc s g c S D v m ↔ Acc s g c S D' v m := by
  have : D = D' := funext fun w => funext fun x => propext (e w x)
  rw [this]
/-- One state with one gust. -/
theorem acc_one {s g c : Int} {S : Int → Int → Prop} {w x v m : Int} : Acc s g c S (fun w' x' => w' = w ∧ x' = x) v m ↔ (nxW s g c w x = v ∧ ∃ m0, S w m0 ∧ m = m0 + goD w v) := by
  constructor
  · rintro ⟨w', x', ⟨rfl, rfl⟩, m0, h1, h2, h3⟩
    exact ⟨h2, m0, h1, h3⟩
  · rintro ⟨h2, m0, h1, h3⟩
    exact ⟨w, x, ⟨rfl, rfl⟩, m0, h1, h2, h3⟩
/-- A tally behind one state with one gust more. -/
theorem rep_step {s g c : Int} {S D : Int → Int → Prop} {w x v : Int} {t u : Ty} (h : Rep (Acc s g c S D v) t) (hw : Rep (S w) u) (hv : nxW s g c w x = v) :
    Rep (Acc s g c S (fun w' x' => D w' x' ∨ (w' = w ∧ x' = x)) v) (orT t (wiT (goD w v) u)) := by
  refine rep_iff (rep_or h (rep_wi (goD w v) hw)) fun m => ?_
  rw [acc_or, acc_one]
  exact ⟨fun h => h.imp id fun h => ⟨hv, h⟩, fun h => h.imp id fun h => h.2⟩
theorem rep_stay {s g c : Int} {S D : Int → Int → Prop} {w x v : Int} {t : Ty} (h : Rep (Acc s g c S D v) t) (hv : nxW s g c w x ≠ v) :
    Rep (Acc s g c S (fun w' x' => D w' x' ∨ (w' = w ∧ x' = x)) v) t := by
  refine rep_iff h fun m => ?_
  rw [acc_or, acc_one]
  exact ⟨.inl, fun h => h.resolve_right fun h => hv h.1⟩
/-- A state that can't be makes nothing. -/
theorem rep_skip {s g c : Int} {S D D' : Int → Int → Prop} {v : Int} {t : Ty} (h : Rep (Acc s g c S D v) t) (hD : ∀ w x, D' w x → (D w x ∨ ∀ m, ¬ S w m)) (hD2 : ∀ w x, D w x → D' w x) : Rep (Acc s g c S D' v) t := by
  refine rep_iff h fun m => ⟨?_, ?_⟩
  · rintro ⟨w, x, h, r⟩; exact ⟨w, x, hD2 _ _ h, r⟩
  · rintro ⟨w, x, h, m0, h1, r⟩
    rcases hD _ _ h with h | h
    · exact ⟨w, x, h, m0, h1, r⟩
    · exact absurd h1 (h _)
/-- A missing minute moves as a calm one does, or as one that stops work. -/
theorem nx_calm {s g c w x : Int} (hs : 1 ≤ s) (hg : 1 ≤ g ∧ g ≤ s) (hx : 0 ≤ x) : nxW s g c w x = nxW s g c w 0 ∨ nxW s g c w x = nxW s g c w s := by
  unfold nxW
  by_cases h0 : w = 0
  · simp only [if_pos h0]
    by_cases h : s ≤ x
    · exact .inr (by rw [if_pos (.inr h), if_pos (.inr (Int.le_refl s))])
    · exact .inl (by rw [if_neg (by omega), if_neg (by omega)])
  · simp only [if_neg h0]
    by_cases h : g ≤ x
    · exact .inr (by rw [if_pos (.inr h), if_pos (.inr (by omega))])
    · exact .inl (by rw [if_neg (by omega), if_neg (by omega)])
/-- Some gusts that say what all do: any that lie in range, 0 and Stop among them if the reading is missing. -/
theorem acc_gusts {s g c : Int} (hs : 1 ≤ s ∧ s ≤ 200) (hg : 1 ≤ g ∧ g ≤ s) {S : Int → Int → Prop} {y : Int} {G : Int → Prop} (hG : ∀ x, G x → Can y x) (hy : ¬ y = -1 → G y) (h0 : y = -1 → G 0) (h1 : y = -1 → G s) {v m : Int} :
    Acc s g c S (fun _ x => G x) v m ↔ Acc s g c S (fun _ x => Can y x) v m := by
  constructor
  · rintro ⟨w, x, h, r⟩; exact ⟨w, x, hG _ h, r⟩
  · rintro ⟨w, x, h, m0, a1, a2, a3⟩
    by_cases hm : y = -1
    · unfold Can at h
      rw [if_pos hm] at h
      rcases nx_calm (c := c) (w := w) hs.1 hg h.1 with e | e
      · exact ⟨w, 0, h0 hm, m0, a1, by rw [← e]; exact a2, a3⟩
      · exact ⟨w, s, h1 hm, m0, a1, by rw [← e]; exact a2, a3⟩
    · unfold Can at h
      rw [if_neg hm] at h
      subst h
      exact ⟨w, x, hy hm, m0, a1, a2, a3⟩
theorem ss_bd {s g c : Int} (hc : 1 ≤ c) {f : Nat → Int} : ∀ {k : Nat} {v m : Int}, SS s g c f k v m → (0 ≤ v ∧ v ≤ c) ∧ 0 ≤ m ∧ m ≤ k
  | 0, v, m, h => by obtain ⟨rfl, rfl⟩ := h; omega
  | k + 1, v, m, h => by
    obtain ⟨w, x, _, m0, h1, h2, h3⟩ := h
    have ih := ss_bd hc h1
    unfold nxW at h2
    unfold goD at h3
    refine ⟨?_, ?_⟩
    · subst h2
      split <;> split <;> omega
    · split at h3 <;> omega
/-- All gusts for the missing minutes are among them. -/
theorem ss_of {s g c : Int} {f h : Nat → Int} : ∀ k : Nat, (∀ i, i < k → Can (f i) (h i)) → SS s g c f k (wt s g c h k) (((fl (gW s g c h) k).length : Nat) : Int)
  | 0, _ => ⟨rfl, rfl⟩
  | k + 1, hk => by
    refine ⟨wt s g c h k, h k, hk k (by omega), _, ss_of k fun i hi => hk i (by omega), rfl, ?_⟩
    rw [fl_succ]
    unfold goD
    by_cases hg : gW s g c h k = true
    · rw [if_pos hg]
      unfold gW at hg
      simp only [Bool.and_eq_true, decide_eq_true_eq] at hg
      rw [if_pos hg]
      simp
    · rw [if_neg hg]
      unfold gW at hg
      simp only [Bool.and_eq_true, decide_eq_true_eq] at hg
      rw [if_neg hg]
      simp
/-- All states' together. -/
def AllS (s g c : Int) (f : Nat → Int) (n : Nat) (m : Int) : Prop := ∃ v, SS s g c f n v m

/-! ### A minute, state by state and gust by gust -/
def setT (T : Nat → Ty) (j : Nat) (t : Ty) : Nat → Ty := fun i => if i = j then t else T i
def Dk (n : Nat) (f : Nat → Int) (k j : Nat) (w x : Int) : Prop := (0 ≤ w ∧ w < k ∧ ∃ i, i < n ∧ x = f i) ∨ (w = k ∧ ∃ i, i < j ∧ x = f i)
def RepA (s g c : Int) (S : Int → Int → Prop) (n : Nat) (f : Nat → Int) (k j : Nat) (T : Nat → Ty) : Prop := ∀ v : Nat, v < 241 → Rep (Acc s g c S (Dk n f k j) v) (T v)
section
variable {s g c : Int} {S : Int → Int → Prop} {n : Nat} {f : Nat → Int} {k j : Nat} {T : Nat → Ty}
theorem ra_zero : RepA s g c S n f 0 0 fun _ => none := fun v _ m h => by
  obtain ⟨w, x, h | h, _⟩ := h
  · obtain ⟨h1, h2, _⟩ := h; omega
  · obtain ⟨_, i, hi, _⟩ := h; omega
theorem dk_succ (w x : Int) : Dk n f k (j + 1) w x ↔ (Dk n f k j w x ∨ (w = k ∧ x = f j)) := by
  unfold Dk
  constructor
  · rintro (h | ⟨h1, i, hi, h2⟩)
    · exact .inl (.inl h)
    · by_cases e : i = j
      · subst e; exact .inr ⟨h1, h2⟩
      · exact .inl (.inr ⟨h1, i, by omega, h2⟩)
  · rintro ((h | ⟨h1, i, hi, h2⟩) | ⟨h1, h2⟩)
    · exact .inl h
    · exact .inr ⟨h1, i, by omega, h2⟩
    · exact .inr ⟨h1, j, by omega, h2⟩
theorem ra_step {u : Ty} (h : RepA s g c S n f k j T) (hu : Rep (S k) u) {v : Nat} (hv : nxW s g c k (f j) = v) :
    RepA s g c S n f k (j + 1) (setT T v (orT (T v) (wiT (goD k v) u))) := by
  intro v' hv'
  have e : ∀ m, Acc s g c S (fun w' x' => Dk n f k j w' x' ∨ (w' = k ∧ x' = f j)) v' m ↔ Acc s g c S (Dk n f k (j + 1)) v' m := fun m => acc_iff fun w x => (dk_succ w x).symm
  unfold setT
  by_cases hvv : v' = v
  · subst hvv
    rw [if_pos rfl]
    exact rep_iff (rep_step (h v' hv') hu hv) e
  · rw [if_neg hvv]
    exact rep_iff (rep_stay (h v' hv') (by omega)) e
theorem ra_next (h : RepA s g c S n f k n T) : RepA s g c S n f (k + 1) 0 T := fun v hv => rep_iff (h v hv) fun m => acc_iff fun w x => by
  unfold Dk
  constructor
  · rintro (⟨h1, h2, h3⟩ | ⟨h1, h3⟩)
    · exact .inl ⟨h1, by omega, h3⟩
    · exact .inl ⟨by omega, by omega, h3⟩
  · rintro (⟨h1, h2, h3⟩ | ⟨_, i, hi, _⟩)
    · by_cases e : w = k
      · exact .inr ⟨e, h3⟩
      · exact .inl ⟨h1, by omega, h3⟩
    · omega
theorem ra_skip (hs : ∀ m, ¬ S k m) (h : RepA s g c S n f k 0 T) : RepA s g c S n f (k + 1) 0 T := fun v hv => rep_skip (h v hv) (fun w x hw => by
  rcases hw with ⟨h1, h2, h3⟩ | ⟨_, i, hi, _⟩
  · by_cases e : w = k
    · subst e; exact .inr hs
    · exact .inl (.inl ⟨h1, by omega, h3⟩)
  · omega) (fun w x hw => by
  rcases hw with ⟨h1, h2, h3⟩ | ⟨_, i, hi, _⟩
  · exact .inl ⟨h1, by omega, h3⟩
  · omega)
theorem ra_end (hS : ∀ v m, S v m → 0 ≤ v ∧ v ≤ 240) (h : RepA s g c S n f 241 0 T) (v : Nat) (hv : v < 241) : Rep (Acc s g c S (fun _ x => ∃ i, i < n ∧ x = f i) v) (T v) := rep_skip (h v hv) (fun w x hw => by
  by_cases e : 0 ≤ w ∧ w < 241
  · exact .inl (.inl ⟨e.1, e.2, hw⟩)
  · exact .inr fun m hm => e (by have := hS _ _ hm; omega)) (fun w x hw => by
  rcases hw with ⟨h1, h2, h3⟩ | ⟨_, i, hi, _⟩
  · exact h3
  · omega)
end
end Go.Proofs.YtfmoedlnjlkiiaaDoor
