/- The triple that bends most: what it is the most of, and the band that it makes. -/
import Derived.Test.YtdhobjflfhijjaaNearest
import Derived.Test.YtdhobjflfhijjaaStrip
namespace Go.Proofs.Ytdhobjflfhijjaa

theorem bestTo_best (f : Nat → Nat → Int) {n : Nat} (tr : ∀ i j k, i < n → j < n → k < n → ¬ 0 < f i j → ¬ 0 < f j k → ¬ 0 < f i k)
    (an : ∀ i j, i < n → j < n → 0 < f i j → ¬ 0 < f j i) : ∀ k, k ≤ n → ∀ i, i < k → ¬ 0 < f i (bestTo f k)
  | 0, _, i, h => absurd h (by omega)
  | k + 1, hk, i, h => by
    have rf : ∀ i, i < n → ¬ 0 < f i i := fun i hi h => an i i hi hi h h
    have hb : bestTo f k < n := by have := bestTo_le f k; omega
    unfold bestTo
    split
    · rename_i hp
      rcases Nat.lt_or_ge i k with hi | hi
      · exact tr i _ k (by omega) hb (by omega) (bestTo_best f tr an k (by omega) i hi) (an k _ (by omega) hb hp)
      · rw [show i = k by omega]; exact rf k (by omega)
    · rename_i hp
      rcases Nat.lt_or_ge i k with hi | hi
      · exact bestTo_best f tr an k (by omega) i hi
      · rw [show i = k by omega]; exact hp

theorem mem_trips {n i j k : Nat} (hi : i < j) (hj : j < k) (hk : k < n) : (i, j, k) ∈ trips n := by
  unfold trips tripsI tripsJ tripsK
  simp only [List.mem_flatMap, List.mem_map, List.mem_range'_1]
  exact ⟨i, by omega, j, by omega, k, by omega, rfl⟩
theorem mem_triAt {ts : List Tri} {x : Tri} (h : x ∈ ts) : ∃ m, m < ts.length ∧ triAt ts m = x := by
  obtain ⟨m, hm, e⟩ := List.mem_iff_getElem.1 h
  refine ⟨m, hm, ?_⟩
  unfold triAt
  rw [List.getD_eq_getElem?_getD, List.getElem?_eq_getElem hm]
  exact e

theorem cmpB_pos {ps : List (Int × Int)} {x y : Tri} (hx : 1 ≤ bowD ps x) (hy : 1 ≤ bowD ps y) : 0 < cmpB ps x y ↔ bowN ps y * bowD ps x < bowN ps x * bowD ps y := by
  unfold cmpB cmpR cmp3
  rw [show max (bowD ps x) 1 = bowD ps x by omega, show max (bowD ps y) 1 = bowD ps y by omega]
  generalize bowN ps x * bowD ps y = a
  generalize bowN ps y * bowD ps x = b
  omega

theorem ratio_trans {a b c d e f : Int} (hb : 1 ≤ b) (hd : 1 ≤ d) (hf : 1 ≤ f) (h1 : a * d ≤ c * b) (h2 : c * f ≤ e * d) : a * f ≤ e * b := by
  have h3 : a * d * f ≤ c * b * f := Int.mul_le_mul_of_nonneg_right h1 (by omega)
  have h4 : c * f * b ≤ e * d * b := Int.mul_le_mul_of_nonneg_right h2 (by omega)
  refine Int.le_of_mul_le_mul_right (a := d) ?_ (by omega)
  grind

theorem trip_bowD {ps : List (Int × Int)} (hG : GoodPts ps) {x : Tri} (hx : x ∈ trips ps.length) : 1 ≤ bowD ps x := by
  obtain ⟨h1, h2, h3⟩ := trips_mem hx
  have := goodPts_lt hG (i := x.1) (j := x.2.2) (by omega) h3
  unfold ptAt at this
  unfold bowD
  omega

/-- No triple bends more than the best. -/
theorem best_most {ps : List (Int × Int)} (hG : GoodPts ps) {x : Tri} (hx : x ∈ trips ps.length) :
    bowN ps x * bowD ps (bestTri ps) ≤ bowN ps (bestTri ps) * bowD ps x := by
  obtain ⟨m, hm, rfl⟩ := mem_triAt hx
  have hl : 0 < (trips ps.length).length := by omega
  have hd : ∀ i, i < (trips ps.length).length → 1 ≤ bowD ps (triAt (trips ps.length) i) := fun i hi => trip_bowD hG (triAt_mem hi)
  have hb := bestTo_best (fun i j => cmpB ps (triAt (trips ps.length) i) (triAt (trips ps.length) j)) (n := (trips ps.length).length)
    (fun i j k hi hj hk h1 h2 => by
      rw [cmpB_pos (hd _ hi) (hd _ hj)] at h1
      rw [cmpB_pos (hd _ hj) (hd _ hk)] at h2
      rw [cmpB_pos (hd _ hi) (hd _ hk)]
      have := ratio_trans (hd _ hi) (hd _ hj) (hd _ hk) (Int.not_lt.1 h1) (Int.not_lt.1 h2)
      omega)
    (fun i j hi hj h1 => by
      rw [cmpB_pos (hd _ hi) (hd _ hj)] at h1
      rw [cmpB_pos (hd _ hj) (hd _ hi)]
      omega) _ (Nat.le_refl _) m hm
  have hB := bestTo_lt (fun i j => cmpB ps (triAt (trips ps.length) i) (triAt (trips ps.length) j)) _ hl
  rw [cmpB_pos (hd _ hm) (hd _ hB)] at hb
  exact Int.not_lt.1 hb

theorem band_gen {n p q r : Nat} {h v : Nat → Int} {c b : Int} (hb : 0 ≤ b) (mono : ∀ i j, i < j → j < n → h i < h j) (hpq : p < q) (hqr : q < r) (hr : r < n)
    (vp : v p = c) (vq : v q = c + b) (vr : v r = c)
    (hT : ∀ i j k, i < j → j < k → k < n → -(b * (h k - h i)) ≤ (v j - v i) * (h k - h i) - (v k - v i) * (h j - h i) ∧ (v j - v i) * (h k - h i) - (v k - v i) * (h j - h i) ≤ b * (h k - h i)) :
    ∀ s, s < n → c ≤ v s ∧ v s ≤ c + b := by
  intro s hs
  have m1 := mono p q hpq (by omega)
  have m2 := mono q r hqr hr
  have m3 : h p < h r := by omega
  constructor
  · rcases Nat.lt_trichotomy s q with h1 | h1 | h1
    · have := (hT s q r h1 hqr hr).2
      rw [vq, vr] at this
      exact low_left m2 this
    · subst h1; omega
    · have := (hT p q s hpq h1 hs).2
      rw [vq, vp] at this
      exact low_right m1 this
  · rcases Nat.lt_trichotomy s p with h1 | h1 | h1
    · have := (hT s p q h1 hpq (by omega)).1
      rw [vp, vq] at this
      exact up_left m1 this
    · subst h1; omega
    · rcases Nat.lt_trichotomy s r with h2 | h2 | h2
      · have := (hT p s r h1 h2 hr).2
        rw [vp, vr] at this
        exact up_mid m3 this
      · subst h2; omega
      · have := (hT q r s hqr h2 hs).1
        rw [vq, vr] at this
        exact up_right m2 this

/-- Where a point lies along the direction of two others. -/
def dirV (p r x : Int × Int) : Int := x.2 * (r.1 - p.1) - (r.2 - p.2) * x.1
theorem dirV_right (p r : Int × Int) : dirV p r r = dirV p r p := by unfold dirV; grind
theorem dirV_mid (p q r : Int × Int) : dirV p r q = dirV p r p + bul p q r := by unfold dirV bul; grind
theorem dirV_bul (p r i j k : Int × Int) : (dirV p r j - dirV p r i) * (k.1 - i.1) - (dirV p r k - dirV p r i) * (j.1 - i.1) = bul i j k * (r.1 - p.1) := by unfold dirV bul; grind

def bstP (ps : List (Int × Int)) : Int × Int := ptAt ps (bestTri ps).1
def bstQ (ps : List (Int × Int)) : Int × Int := ptAt ps (bestTri ps).2.1
def bstR (ps : List (Int × Int)) : Int × Int := ptAt ps (bestTri ps).2.2
/-- How far the best triple bends. -/
def bstB (ps : List (Int × Int)) : Int := bul (bstP ps) (bstQ ps) (bstR ps)

theorem best_mem {ps : List (Int × Int)} (h : 3 ≤ ps.length) : bestTri ps ∈ trips ps.length :=
  triAt_mem (bestTo_lt _ _ (trips_ne h))

theorem best_T {ps : List (Int × Int)} (hG : GoodPts ps) {i j k : Nat} (hi : i < j) (hj : j < k) (hk : k < ps.length) :
    -((bstB ps).natAbs * ((ptAt ps k).1 - (ptAt ps i).1)) ≤ bul (ptAt ps i) (ptAt ps j) (ptAt ps k) * ((bstR ps).1 - (bstP ps).1) ∧
    bul (ptAt ps i) (ptAt ps j) (ptAt ps k) * ((bstR ps).1 - (bstP ps).1) ≤ (bstB ps).natAbs * ((ptAt ps k).1 - (ptAt ps i).1) := by
  have hD := trip_bowD hG (best_mem (ps := ps) (by omega))
  have hm := best_most hG (mem_trips hi hj hk)
  change 1 ≤ (bstR ps).1 - (bstP ps).1 at hD
  change ((bul (ptAt ps i) (ptAt ps j) (ptAt ps k)).natAbs : Int) * ((bstR ps).1 - (bstP ps).1) ≤ ((bstB ps).natAbs : Int) * ((ptAt ps k).1 - (ptAt ps i).1) at hm
  have h1 : bul (ptAt ps i) (ptAt ps j) (ptAt ps k) * ((bstR ps).1 - (bstP ps).1) ≤ ((bul (ptAt ps i) (ptAt ps j) (ptAt ps k)).natAbs : Int) * ((bstR ps).1 - (bstP ps).1) :=
    Int.mul_le_mul_of_nonneg_right (by omega) (by omega)
  have h2 : -bul (ptAt ps i) (ptAt ps j) (ptAt ps k) * ((bstR ps).1 - (bstP ps).1) ≤ ((bul (ptAt ps i) (ptAt ps j) (ptAt ps k)).natAbs : Int) * ((bstR ps).1 - (bstP ps).1) :=
    Int.mul_le_mul_of_nonneg_right (by omega) (by omega)
  rw [Int.neg_mul] at h2
  omega

/-- All points lie between the best triple's line and its middle point. -/
theorem best_band {ps : List (Int × Int)} (hG : GoodPts ps) (h3 : 3 ≤ ps.length) (s : Nat) (hs : s < ps.length) :
    (0 ≤ bstB ps → dirV (bstP ps) (bstR ps) (bstP ps) ≤ dirV (bstP ps) (bstR ps) (ptAt ps s) ∧ dirV (bstP ps) (bstR ps) (ptAt ps s) ≤ dirV (bstP ps) (bstR ps) (bstP ps) + bstB ps) ∧
    (bstB ps ≤ 0 → dirV (bstP ps) (bstR ps) (bstP ps) + bstB ps ≤ dirV (bstP ps) (bstR ps) (ptAt ps s) ∧ dirV (bstP ps) (bstR ps) (ptAt ps s) ≤ dirV (bstP ps) (bstR ps) (bstP ps)) := by
  obtain ⟨t1, t2, t3⟩ := trips_mem (best_mem h3)
  have mono : ∀ i j, i < j → j < ps.length → (ptAt ps i).1 < (ptAt ps j).1 := fun i j h1 h2 => goodPts_lt hG h1 h2
  constructor
  · intro hb
    refine band_gen (h := fun i => (ptAt ps i).1) (v := fun i => dirV (bstP ps) (bstR ps) (ptAt ps i)) hb mono t1 t2 t3 rfl ?_ ?_ ?_ s hs
    · exact dirV_mid ..
    · exact dirV_right ..
    · intro i j k h1 h2 h4
      have := best_T hG h1 h2 h4
      rw [show ((bstB ps).natAbs : Int) = bstB ps by omega] at this
      rw [dirV_bul]
      exact this
  · intro hb
    have := band_gen (c := -dirV (bstP ps) (bstR ps) (bstP ps)) (b := -bstB ps) (h := fun i => (ptAt ps i).1) (v := fun i => -dirV (bstP ps) (bstR ps) (ptAt ps i)) (by omega) mono t1 t2 t3 rfl ?_ ?_ ?_ s hs
    · omega
    · have := dirV_mid (bstP ps) (bstQ ps) (bstR ps)
      change -dirV (bstP ps) (bstR ps) (bstQ ps) = _
      unfold bstB
      omega
    · exact congrArg Neg.neg (dirV_right ..)
    · intro i j k h1 h2 h4
      have := best_T hG h1 h2 h4
      rw [show ((bstB ps).natAbs : Int) = -bstB ps by omega, ← dirV_bul (bstP ps) (bstR ps) (ptAt ps i) (ptAt ps j) (ptAt ps k)] at this
      constructor <;> grind

end Go.Proofs.Ytdhobjflfhijjaa
