/- The narrowest strip is the best triple's. -/
import Derived.Test.YtdhobjflfhijjaaMost
namespace Go.Proofs.Ytdhobjflfhijjaa

def IsLo (f : Nat → Int) (n : Nat) (lo : Int) : Prop := (∃ s, s < n ∧ f s = lo) ∧ ∀ s, s < n → lo ≤ f s
def IsHi (f : Nat → Int) (n : Nat) (hi : Int) : Prop := (∃ s, s < n ∧ f s = hi) ∧ ∀ s, s < n → f s ≤ hi

theorem isLo_one {f : Nat → Int} {n : Nat} {a b : Int} (ha : IsLo f n a) (hb : IsLo f n b) : a = b := by
  obtain ⟨⟨s, hs, rfl⟩, h1⟩ := ha
  obtain ⟨⟨t, ht, rfl⟩, h2⟩ := hb
  have := h1 t ht
  have := h2 s hs
  omega
theorem isHi_one {f : Nat → Int} {n : Nat} {a b : Int} (ha : IsHi f n a) (hb : IsHi f n b) : a = b := by
  obtain ⟨⟨s, hs, rfl⟩, h1⟩ := ha
  obtain ⟨⟨t, ht, rfl⟩, h2⟩ := hb
  have := h1 t ht
  have := h2 s hs
  omega

/-- A point's place along any slope. -/
def alV (bb d : Int) (x : Int × Int) : Int := x.2 * d - bb * x.1

theorem best_lt {ps : List (Int × Int)} (hG : GoodPts ps) (h3 : 3 ≤ ps.length) : (bstP ps).1 < (bstQ ps).1 ∧ (bstQ ps).1 < (bstR ps).1 := by
  obtain ⟨t1, t2, t3⟩ := trips_mem (best_mem h3)
  exact ⟨goodPts_lt hG t1 (by omega), goodPts_lt hG t2 t3⟩

/-- Along the best triple's own slope the strip is as wide as the triple bends. -/
theorem best_own {ps : List (Int × Int)} (hG : GoodPts ps) (h3 : 3 ≤ ps.length) {lo hi : Int}
    (hl : IsLo (fun s => alV ((bstR ps).2 - (bstP ps).2) ((bstR ps).1 - (bstP ps).1) (ptAt ps s)) ps.length lo)
    (hh : IsHi (fun s => alV ((bstR ps).2 - (bstP ps).2) ((bstR ps).1 - (bstP ps).1) (ptAt ps s)) ps.length hi) :
    hi - lo = ((bstB ps).natAbs : Int) ∧ lo + hi = 2 * dirV (bstP ps) (bstR ps) (bstP ps) + bstB ps := by
  obtain ⟨t1, t2, t3⟩ := trips_mem (best_mem h3)
  change IsLo (fun s => dirV (bstP ps) (bstR ps) (ptAt ps s)) ps.length lo at hl
  change IsHi (fun s => dirV (bstP ps) (bstR ps) (ptAt ps s)) ps.length hi at hh
  have eq : dirV (bstP ps) (bstR ps) (bstQ ps) = dirV (bstP ps) (bstR ps) (bstP ps) + bstB ps := dirV_mid ..
  rcases Int.le_total 0 (bstB ps) with h | h
  · have e1 := isLo_one hl (b := dirV (bstP ps) (bstR ps) (bstP ps)) ⟨⟨(bestTri ps).1, by omega, rfl⟩, fun s hs => ((best_band hG h3 s hs).1 h).1⟩
    have e2 := isHi_one hh (b := dirV (bstP ps) (bstR ps) (bstP ps) + bstB ps) ⟨⟨(bestTri ps).2.1, by omega, eq⟩, fun s hs => ((best_band hG h3 s hs).1 h).2⟩
    omega
  · have e1 := isLo_one hl (b := dirV (bstP ps) (bstR ps) (bstP ps) + bstB ps) ⟨⟨(bestTri ps).2.1, by omega, eq⟩, fun s hs => ((best_band hG h3 s hs).2 h).1⟩
    have e2 := isHi_one hh (b := dirV (bstP ps) (bstR ps) (bstP ps)) ⟨⟨(bestTri ps).1, by omega, rfl⟩, fun s hs => ((best_band hG h3 s hs).2 h).2⟩
    omega

/-- A strip that is not wider than the best triple bends has its slope, its middle and its width. -/
theorem strip_same {ps : List (Int × Int)} (hG : GoodPts ps) (h3 : 3 ≤ ps.length) {bb d lo hi : Int} (_hd : 1 ≤ d)
    (hl : IsLo (fun s => alV bb d (ptAt ps s)) ps.length lo) (hh : IsHi (fun s => alV bb d (ptAt ps s)) ps.length hi)
    (hw : (hi - lo) * ((bstR ps).1 - (bstP ps).1) ≤ ((bstB ps).natAbs : Int) * d) :
    ((bstR ps).2 - (bstP ps).2) * d = bb * ((bstR ps).1 - (bstP ps).1) := by
  obtain ⟨t1, t2, t3⟩ := trips_mem (best_mem h3)
  obtain ⟨m1, m2⟩ := best_lt hG h3
  have eq : dirV (bstP ps) (bstR ps) (bstQ ps) = dirV (bstP ps) (bstR ps) (bstP ps) + bstB ps := dirV_mid ..
  have er := dirV_right (bstP ps) (bstR ps)
  have lp : lo ≤ alV bb d (bstP ps) := hl.2 (bestTri ps).1 (by omega)
  have lq : lo ≤ alV bb d (bstQ ps) := hl.2 (bestTri ps).2.1 (by omega)
  have lr : lo ≤ alV bb d (bstR ps) := hl.2 (bestTri ps).2.2 (by omega)
  have up : alV bb d (bstP ps) ≤ hi := hh.2 (bestTri ps).1 (by omega)
  have uq : alV bb d (bstQ ps) ≤ hi := hh.2 (bestTri ps).2.1 (by omega)
  have ur : alV bb d (bstR ps) ≤ hi := hh.2 (bestTri ps).2.2 (by omega)
  rcases Int.le_total 0 (bstB ps) with h | h
  · rw [show ((bstB ps).natAbs : Int) = bstB ps by omega] at hw
    exact wide_eq m1 m2 (c := dirV (bstP ps) (bstR ps) (bstP ps)) rfl er eq (by omega) lp lr uq hw
  · rw [show ((bstB ps).natAbs : Int) = -bstB ps by omega] at hw
    exact wide_neg_eq m1 m2 (c := dirV (bstP ps) (bstR ps) (bstP ps)) (b := -bstB ps) rfl er (by rw [Int.sub_neg]; exact eq) (by omega) up ur lq hw

theorem alV_scale {bb d B D : Int} (e : B * d = bb * D) (x : Int × Int) : alV bb d x * D = alV B D x * d := by unfold alV; grind

/-- The extremes along one slope in two measures. -/
theorem lo_scale {f g : Nat → Int} {n : Nat} {d D a b : Int} (hd : 1 ≤ d) (hD : 1 ≤ D) (e : ∀ s, f s * D = g s * d) (ha : IsLo f n a) (hb : IsLo g n b) : a * D = b * d := by
  obtain ⟨⟨s, hs, rfl⟩, h1⟩ := ha
  obtain ⟨⟨t, ht, rfl⟩, h2⟩ := hb
  have k1 : f s * D ≤ f t * D := Int.mul_le_mul_of_nonneg_right (h1 t ht) (by omega)
  have k2 : g t * d ≤ g s * d := Int.mul_le_mul_of_nonneg_right (h2 s hs) (by omega)
  have := e s
  have := e t
  omega
theorem hi_scale {f g : Nat → Int} {n : Nat} {d D a b : Int} (hd : 1 ≤ d) (hD : 1 ≤ D) (e : ∀ s, f s * D = g s * d) (ha : IsHi f n a) (hb : IsHi g n b) : a * D = b * d := by
  obtain ⟨⟨s, hs, rfl⟩, h1⟩ := ha
  obtain ⟨⟨t, ht, rfl⟩, h2⟩ := hb
  have k1 : f t * D ≤ f s * D := Int.mul_le_mul_of_nonneg_right (h1 t ht) (by omega)
  have k2 : g s * d ≤ g t * d := Int.mul_le_mul_of_nonneg_right (h2 s hs) (by omega)
  have := e s
  have := e t
  omega

/-- Each list of numbers has a least and a greatest. -/
theorem lo_is (f : Nat → Int) : ∀ n, 0 < n → ∃ a, IsLo f n a
  | 0, h => absurd h (by omega)
  | 1, _ => ⟨f 0, ⟨0, by omega, rfl⟩, fun s hs => by rw [show s = 0 by omega]; exact Int.le_refl _⟩
  | n + 2, _ => by
    obtain ⟨a, ⟨t, ht, rfl⟩, h2⟩ := lo_is f (n + 1) (by omega)
    rcases Int.le_total (f t) (f (n + 1)) with h | h
    · exact ⟨_, ⟨t, by omega, rfl⟩, fun s hs => by
        rcases Nat.lt_or_ge s (n + 1) with h3 | h3
        · exact h2 s h3
        · rw [show s = n + 1 by omega]; exact h⟩
    · exact ⟨_, ⟨n + 1, by omega, rfl⟩, fun s hs => by
        rcases Nat.lt_or_ge s (n + 1) with h3 | h3
        · have := h2 s h3; omega
        · rw [show s = n + 1 by omega]; exact Int.le_refl _⟩
theorem hi_is (f : Nat → Int) (n : Nat) (h : 0 < n) : ∃ a, IsHi f n a := by
  obtain ⟨a, ⟨t, ht, e⟩, h2⟩ := lo_is (fun s => -f s) n h
  exact ⟨-a, ⟨t, ht, by dsimp only at e; omega⟩, fun s hs => by have := h2 s hs; dsimp only at this; omega⟩

/-- The narrowest strip's line and the best triple's line are one line before they are divided. -/
theorem strip_line {ps : List (Int × Int)} (hG : GoodPts ps) (h3 : 3 ≤ ps.length) {bb d lo hi : Int} (hd : 1 ≤ d)
    (hl : IsLo (fun s => alV bb d (ptAt ps s)) ps.length lo) (hh : IsHi (fun s => alV bb d (ptAt ps s)) ps.length hi)
    (hw : (hi - lo) * ((bstR ps).1 - (bstP ps).1) ≤ ((bstB ps).natAbs : Int) * d) :
    (lo + hi) * nlD ps = nlA ps * (2 * d) ∧ (2 * bb) * nlD ps = nlB ps * (2 * d) ∧ (hi - lo) * ((bstR ps).1 - (bstP ps).1) = ((bstB ps).natAbs : Int) * d := by
  have e := strip_same hG h3 hd hl hh hw
  obtain ⟨m1, m2⟩ := best_lt hG h3
  obtain ⟨lo', hl'⟩ := lo_is (fun s => alV ((bstR ps).2 - (bstP ps).2) ((bstR ps).1 - (bstP ps).1) (ptAt ps s)) ps.length (by omega)
  obtain ⟨hi', hh'⟩ := hi_is (fun s => alV ((bstR ps).2 - (bstP ps).2) ((bstR ps).1 - (bstP ps).1) (ptAt ps s)) ps.length (by omega)
  have o := best_own hG h3 hl' hh'
  have e1 := lo_scale hd (by omega) (fun s => alV_scale e (ptAt ps s)) hl hl'
  have e2 := hi_scale hd (by omega) (fun s => alV_scale e (ptAt ps s)) hh hh'
  have eA : nlA ps = 2 * dirV (bstP ps) (bstR ps) (bstP ps) + bstB ps := by
    unfold nlA
    rw [if_neg (by omega), if_neg (by omega)]
    change notA (bstP ps) (bstQ ps) (bstR ps) = _
    unfold notA bstB dirV
    grind
  have eB : nlB ps = 2 * ((bstR ps).2 - (bstP ps).2) := by
    unfold nlB
    rw [if_neg (by omega), if_neg (by omega)]
    rfl
  have eD : nlD ps = 2 * ((bstR ps).1 - (bstP ps).1) := by
    unfold nlD
    rw [if_neg (by omega), if_neg (by omega)]
    rfl
  obtain ⟨o1, o2⟩ := o
  rw [eA, eB, eD, ← o1, ← o2]
  generalize (bstR ps).1 - (bstP ps).1 = D at *
  generalize (bstR ps).2 - (bstP ps).2 = B at *
  refine ⟨?_, ?_, ?_⟩ <;> grind

/-- The least and the greatest of the first n numbers, as a loop finds them. -/
def loTo (f : Nat → Int) : Nat → Int
  | 0 => 0
  | n + 1 => if n = 0 ∨ f n < loTo f n then f n else loTo f n
def hiTo (f : Nat → Int) : Nat → Int
  | 0 => 0
  | n + 1 => if n = 0 ∨ hiTo f n < f n then f n else hiTo f n
theorem loTo_is (f : Nat → Int) : ∀ n, 0 < n → IsLo f n (loTo f n)
  | 0, h => absurd h (by omega)
  | n + 1, _ => by
    rcases Nat.eq_zero_or_pos n with rfl | hn
    · exact ⟨⟨0, by omega, by simp [loTo]⟩, fun s hs => by rw [show s = 0 by omega]; simp [loTo]⟩
    · obtain ⟨⟨t, ht, e⟩, h2⟩ := loTo_is f n hn
      unfold loTo
      split
      · rename_i h
        exact ⟨⟨n, by omega, rfl⟩, fun s hs => by
          rcases Nat.lt_or_ge s n with h3 | h3
          · have := h2 s h3; omega
          · rw [show s = n by omega]; exact Int.le_refl _⟩
      · rename_i h
        exact ⟨⟨t, by omega, e⟩, fun s hs => by
          rcases Nat.lt_or_ge s n with h3 | h3
          · exact h2 s h3
          · rw [show s = n by omega]; omega⟩
theorem hiTo_is (f : Nat → Int) : ∀ n, 0 < n → IsHi f n (hiTo f n)
  | 0, h => absurd h (by omega)
  | n + 1, _ => by
    rcases Nat.eq_zero_or_pos n with rfl | hn
    · exact ⟨⟨0, by omega, by simp [hiTo]⟩, fun s hs => by rw [show s = 0 by omega]; simp [hiTo]⟩
    · obtain ⟨⟨t, ht, e⟩, h2⟩ := hiTo_is f n hn
      unfold hiTo
      split
      · rename_i h
        exact ⟨⟨n, by omega, rfl⟩, fun s hs => by
          rcases Nat.lt_or_ge s n with h3 | h3
          · have := h2 s h3; omega
          · rw [show s = n by omega]; exact Int.le_refl _⟩
      · rename_i h
        exact ⟨⟨t, by omega, e⟩, fun s hs => by
          rcases Nat.lt_or_ge s n with h3 | h3
          · exact h2 s h3
          · rw [show s = n by omega]; omega⟩

/-- The strip along the line through two points. -/
def prB (ps : List (Int × Int)) (x : Nat × Nat) : Int := (ptAt ps x.2).2 - (ptAt ps x.1).2
def prD (ps : List (Int × Int)) (x : Nat × Nat) : Int := (ptAt ps x.2).1 - (ptAt ps x.1).1
def prLo (ps : List (Int × Int)) (x : Nat × Nat) : Int := loTo (fun s => alV (prB ps x) (prD ps x) (ptAt ps s)) ps.length
def prHi (ps : List (Int × Int)) (x : Nat × Nat) : Int := hiTo (fun s => alV (prB ps x) (prD ps x) (ptAt ps s)) ps.length
/-- The pairs of indexes below n, in the order of two loops. -/
def prsK (i k : Nat) : List (Nat × Nat) := (List.range' (i + 1) (k - (i + 1))).map fun c => (i, c)
def prsI (n i : Nat) : List (Nat × Nat) := (List.range' 0 i).flatMap fun a => prsK a n
def prs (n : Nat) : List (Nat × Nat) := prsI n n
def prAt (ts : List (Nat × Nat)) (i : Nat) : Nat × Nat := ts.getD i (0, 0)
/-- Whether a strip is narrower than another. -/
def cmpP (ps : List (Int × Int)) (x y : Nat × Nat) : Int := if (prHi ps x - prLo ps x) * prD ps y < (prHi ps y - prLo ps y) * prD ps x then 1 else 0
def bestPr (ps : List (Int × Int)) : Nat × Nat := prAt (prs ps.length) (bestTo (fun i j => cmpP ps (prAt (prs ps.length) i) (prAt (prs ps.length) j)) (prs ps.length).length)

theorem prs_mem {n : Nat} {x : Nat × Nat} : x ∈ prs n ↔ x.1 < x.2 ∧ x.2 < n := by
  unfold prs prsI prsK
  simp only [List.mem_flatMap, List.mem_map, List.mem_range'_1]
  constructor
  · rintro ⟨a, _, c, hc, rfl⟩
    dsimp only
    omega
  · rintro ⟨h1, h2⟩
    exact ⟨x.1, by omega, x.2, by omega, rfl⟩
theorem prAt_mem {ts : List (Nat × Nat)} {i : Nat} (h : i < ts.length) : prAt ts i ∈ ts := by
  unfold prAt
  rw [List.getD_eq_getElem?_getD, List.getElem?_eq_getElem h]
  exact List.getElem_mem h
theorem mem_prAt {ts : List (Nat × Nat)} {x : Nat × Nat} (h : x ∈ ts) : ∃ m, m < ts.length ∧ prAt ts m = x := by
  obtain ⟨m, hm, e⟩ := List.mem_iff_getElem.1 h
  refine ⟨m, hm, ?_⟩
  unfold prAt
  rw [List.getD_eq_getElem?_getD, List.getElem?_eq_getElem hm]
  exact e
theorem prs_ne {n : Nat} (h : 2 ≤ n) : 0 < (prs n).length :=
  List.length_pos_of_mem ((prs_mem (n := n) (x := (0, 1))).2 ⟨by dsimp only; omega, by dsimp only; omega⟩)
theorem prD_pos {ps : List (Int × Int)} (hG : GoodPts ps) {x : Nat × Nat} (hx : x ∈ prs ps.length) : 1 ≤ prD ps x := by
  obtain ⟨h1, h2⟩ := prs_mem.1 hx
  have := goodPts_lt hG h1 h2
  unfold prD
  omega
theorem cmpP_pos {ps : List (Int × Int)} {x y : Nat × Nat} : 0 < cmpP ps x y ↔ (prHi ps x - prLo ps x) * prD ps y < (prHi ps y - prLo ps y) * prD ps x := by
  unfold cmpP
  split <;> simp_all
theorem bestPr_mem {ps : List (Int × Int)} (h : 2 ≤ ps.length) : bestPr ps ∈ prs ps.length :=
  prAt_mem (bestTo_lt _ _ (prs_ne h))

/-- No pair's strip is narrower than the best. -/
theorem bestPr_least {ps : List (Int × Int)} (hG : GoodPts ps) {x : Nat × Nat} (hx : x ∈ prs ps.length) :
    (prHi ps (bestPr ps) - prLo ps (bestPr ps)) * prD ps x ≤ (prHi ps x - prLo ps x) * prD ps (bestPr ps) := by
  obtain ⟨m, hm, rfl⟩ := mem_prAt hx
  have hl : 0 < (prs ps.length).length := by omega
  have hd : ∀ i, i < (prs ps.length).length → 1 ≤ prD ps (prAt (prs ps.length) i) := fun i hi => prD_pos hG (prAt_mem hi)
  have hb := bestTo_best (fun i j => cmpP ps (prAt (prs ps.length) i) (prAt (prs ps.length) j)) (n := (prs ps.length).length)
    (fun i j k hi hj hk h1 h2 => by
      rw [cmpP_pos] at h1 h2 ⊢
      have := ratio_trans (hd _ hk) (hd _ hj) (hd _ hi) (Int.not_lt.1 h2) (Int.not_lt.1 h1)
      omega)
    (fun i j hi hj h1 => by
      rw [cmpP_pos] at h1 ⊢
      omega) _ (Nat.le_refl _) m hm
  rw [cmpP_pos] at hb
  exact Int.not_lt.1 hb

/-- The narrowest strip's line, of three points or more, is the best triple's. -/
theorem narrow_line {ps : List (Int × Int)} (hG : GoodPts ps) (h3 : 3 ≤ ps.length) :
    (prLo ps (bestPr ps) + prHi ps (bestPr ps)) * nlD ps = nlA ps * (2 * prD ps (bestPr ps)) ∧ (2 * prB ps (bestPr ps)) * nlD ps = nlB ps * (2 * prD ps (bestPr ps)) ∧
    (prHi ps (bestPr ps) - prLo ps (bestPr ps)) * ((bstR ps).1 - (bstP ps).1) = ((bstB ps).natAbs : Int) * prD ps (bestPr ps) := by
  obtain ⟨t1, t2, t3⟩ := trips_mem (best_mem h3)
  have hn : 0 < ps.length := by omega
  have hd := prD_pos hG (bestPr_mem (ps := ps) (by omega))
  have hx : ((bestTri ps).1, (bestTri ps).2.2) ∈ prs ps.length := prs_mem.2 ⟨by dsimp only; omega, t3⟩
  have h := bestPr_least hG hx
  have o := (best_own hG h3 (lo := prLo ps ((bestTri ps).1, (bestTri ps).2.2)) (hi := prHi ps ((bestTri ps).1, (bestTri ps).2.2)) (loTo_is _ _ hn) (hiTo_is _ _ hn)).1
  rw [o] at h
  exact strip_line hG h3 hd (loTo_is _ _ hn) (hiTo_is _ _ hn) h

/-- And of two points the line through both. -/
theorem narrow_two {ps : List (Int × Int)} (h2 : ps.length = 2) :
    (prLo ps (bestPr ps) + prHi ps (bestPr ps)) * nlD ps = nlA ps * (2 * prD ps (bestPr ps)) ∧ (2 * prB ps (bestPr ps)) * nlD ps = nlB ps * (2 * prD ps (bestPr ps)) ∧
    prHi ps (bestPr ps) = prLo ps (bestPr ps) := by
  have hb := prs_mem.1 (bestPr_mem (ps := ps) (by omega))
  have e : bestPr ps = (0, 1) := by
    ext <;> dsimp only <;> omega
  rw [e]
  have hlo := loTo_is (fun s => alV (prB ps (0, 1)) (prD ps (0, 1)) (ptAt ps s)) ps.length (by omega)
  have hhi := hiTo_is (fun s => alV (prB ps (0, 1)) (prD ps (0, 1)) (ptAt ps s)) ps.length (by omega)
  change IsLo _ _ (prLo ps (0, 1)) at hlo
  change IsHi _ _ (prHi ps (0, 1)) at hhi
  have e0 : alV (prB ps (0, 1)) (prD ps (0, 1)) (ptAt ps 0) = thrA (ptAt ps 0) (ptAt ps 1) := by unfold alV prB prD thrA; grind
  have e1 : alV (prB ps (0, 1)) (prD ps (0, 1)) (ptAt ps 1) = thrA (ptAt ps 0) (ptAt ps 1) := by unfold alV prB prD thrA; grind
  have all : ∀ s, s < ps.length → alV (prB ps (0, 1)) (prD ps (0, 1)) (ptAt ps s) = thrA (ptAt ps 0) (ptAt ps 1) := by
    intro s hs
    rcases (show s = 0 ∨ s = 1 by omega) with rfl | rfl
    · exact e0
    · exact e1
  obtain ⟨⟨s, hs, es⟩, _⟩ := hlo
  obtain ⟨⟨t, ht, et⟩, _⟩ := hhi
  dsimp only at es et
  rw [all s hs] at es
  rw [all t ht] at et
  have eA : nlA ps = thrA (ptAt ps 0) (ptAt ps 1) := by unfold nlA; rw [if_neg (by omega), if_pos h2]
  have eB : nlB ps = prB ps (0, 1) := by unfold nlB; rw [if_neg (by omega), if_pos h2]; rfl
  have eD : nlD ps = prD ps (0, 1) := by unfold nlD; rw [if_neg (by omega), if_pos h2]; rfl
  rw [← es, ← et, eA, eB, eD]
  refine ⟨?_, ?_, rfl⟩ <;> grind

end Go.Proofs.Ytdhobjflfhijjaa
