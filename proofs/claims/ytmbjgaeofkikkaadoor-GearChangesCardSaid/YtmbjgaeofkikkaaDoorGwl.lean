/- with, at links: a new list that has another link at one place. -/
import Derived.Test.YtmbjgaeofkikkaaDoorGwi
import Derived.Deep.RegionLawGrows
import Derived.WideShapes
namespace Go.Proofs.YtmbjgaeofkikkaaDoor
open Go.RowKit
attribute [local go_sem] After.cell After.frozen After.lt After.le After.ne After.ne' After.set_eq After.size_set After.lt_add tx_size tx_toList

def lkv (lm : Nat → List UInt8) (lf : Nat → Int) (j : Nat) : List Value := [.string (tx (lm j)), .int .i64 (lf j)]
/-- The cells of k links. -/
def lkc (lm : Nat → List UInt8) (lf : Nat → Int) (x : Nat → Nat) : Nat → List Value
  | 0 => []
  | k + 1 => lkc lm lf x k ++ lkv lm lf (x k)
theorem lkc_len {lm : Nat → List UInt8} {lf : Nat → Int} {x : Nat → Nat} : ∀ k, (lkc lm lf x k).length = k * 2
  | 0 => rfl
  | k + 1 => by unfold lkc; rw [List.length_append, lkc_len k]; simp [lkv]; omega
theorem lkc_get {lm : Nat → List UInt8} {lf : Nat → Int} {x : Nat → Nat} {k i c : Nat} (hi : i < k) (hc : c < 2) : (lkc lm lf x k)[i * 2 + c]? = (lkv lm lf (x i))[c]? := by
  induction k with
  | zero => omega
  | succ k ih =>
    unfold lkc
    by_cases e : i < k
    · rw [List.getElem?_append_left (by rw [lkc_len]; omega)]
      exact ih e
    · obtain rfl : i = k := by omega
      rw [List.getElem?_append_right (by rw [lkc_len]; omega), lkc_len]
      congr 1
      omega
theorem lkc_at {W : World} {b off n : Nat} {lm : Nat → List UInt8} {lf : Nat → Int} (h : LkAt W (some ⟨b, off, none⟩) n lm lf) : ∀ (k i : Nat), i + k ≤ n → ∀ j u, (lkc lm lf (fun t => i + t) k)[j]? = some u → W.cell? ((⟨b, off + i * 2, none⟩ : Addr).add j) = some u := fun k i hk j u hu => by
  have hj : j < k * 2 := by
    have := (List.getElem?_eq_some_iff.1 hu).1
    rwa [lkc_len] at this
  obtain ⟨t, c, rfl, hc⟩ : ∃ t c, j = t * 2 + c ∧ c < 2 := ⟨j / 2, j % 2, by omega, by omega⟩
  rw [lkc_get (by omega) hc] at hu
  obtain ⟨b', off', e, hb, c0, c1⟩ := h (i + t) (by omega)
  cases e
  have ea : ((⟨b, off + i * 2, none⟩ : Addr).add (t * 2 + c)) = ⟨b, off + (i + t) * 2 + c, none⟩ := by
    rw [Go.WideShapes.add_plain]
    congr 1
    omega
  rw [ea]
  rcases (show c = 0 ∨ c = 1 by omega) with rfl | rfl
  · simp [lkv] at hu; subst hu; exact c0
  · simp [lkv] at hu; subst hu; exact c1
theorem lkc_at0 {W : World} {b off n i : Nat} {lm : Nat → List UInt8} {lf : Nat → Int} (h : LkAt W (some ⟨b, off, none⟩) n lm lf) (hi : i ≤ n) : ∀ q : Addr, some (⟨b, off, none⟩ : Addr) = some q → ∀ j u, (lkc lm lf (fun t => 0 + t) i)[j]? = some u → W.cell? (q.add j) = some u := fun q e j u hu => by
  cases e
  have := lkc_at h i 0 (by omega) j u hu
  simpa using this
theorem lkInfo : (Tryd.prog.info? 37).map (fun i => (i.zero, i.size, i.bytes)) = some (some (.agg #[.string ByteArray.empty, .int .i64 0]), 2, 24) := by kernel_rfl
theorem lkAt_of {W : World} {B g cap m : Nat} {lm : Nat → List UInt8} {lf : Nat → Int} (h : W.ownsRow B 37 2 (.slice (some ⟨g, 0, none⟩) m cap) m (lkc lm lf (fun t => t) m)) : LkAt W (some ⟨g, 0, none⟩) m lm lf := fun k hk => by
  refine ⟨g, 0, rfl, (h.lt g rfl).2, ?_, ?_⟩
  · rw [Nat.zero_add, h.cellAt _ (by omega)]; exact lkc_get hk (c := 0) (by omega)
  · rw [Nat.zero_add, h.cellAt _ (by omega)]; exact lkc_get hk (c := 1) (by omega)
theorem lkc_s (lm : Nat → List UInt8) (lf : Nat → Int) (x : Nat → Nat) (k : Nat) : lkc lm lf x (k + 1) = lkc lm lf x k ++ lkv lm lf (x k) := rfl
theorem lkc_congr {lm lm' : Nat → List UInt8} {lf lf' : Nat → Int} {x x' : Nat → Nat} : ∀ k, (∀ t, t < k → lkv lm lf (x t) = lkv lm' lf' (x' t)) → lkc lm lf x k = lkc lm' lf' x' k
  | 0, _ => rfl
  | k + 1, h => by unfold lkc; rw [lkc_congr k (fun t ht => h t (by omega)), h k (by omega)]
theorem lkc_add (lm : Nat → List UInt8) (lf : Nat → Int) (x : Nat → Nat) (p : Nat) : ∀ q, lkc lm lf x (p + q) = lkc lm lf x p ++ lkc lm lf (fun t => x (p + t)) q
  | 0 => by simp [lkc]
  | q + 1 => by rw [← Nat.add_assoc, lkc_s, lkc_s, lkc_add lm lf x p q, List.append_assoc]
theorem lkc_one (lm : Nat → List UInt8) (lf : Nat → Int) (x : Nat → Nat) : ∀ k, ∀ u ∈ lkc lm lf x k, u.oneCell' = true
  | 0, u, hu => by cases hu
  | k + 1, u, hu => by
    unfold lkc at hu
    rcases List.mem_append.1 hu with hu | hu
    · exact lkc_one lm lf x k u hu
    · simp [lkv] at hu
      rcases hu with rfl | rfl <;> rfl
/-- The cells of items of which one is another. -/
theorem lkc_upd {lm : Nat → List UInt8} {lf : Nat → Int} {i n : Nat} (hi : i < n) (M : List UInt8) (L : Int) :
    lkc lm lf (fun t => 0 + t) i ++ [.string (tx M), .int .i64 L] ++ lkc lm lf (fun t => i + 1 + t) (n - (i + 1)) = lkc (updF lm i M) (updF lf i L) (fun t => t) n := by
  have e : n = i + 1 + (n - (i + 1)) := by omega
  conv => rhs; rw [e, lkc_add]
  congr 1
  · rw [lkc_s]
    congr 1
    · refine lkc_congr i (fun t ht => ?_)
      simp [lkv, updF, show t ≠ i by omega]
    · simp [lkv, updF]
  · refine lkc_congr _ (fun t ht => ?_)
    simp [lkv, updF, show i + 1 + t ≠ i by omega]
set_option maxRecDepth 100000 in
set_option maxHeartbeats 2000000 in
theorem withL_any (a : Option Addr) (n cap : Nat) (lm : Nat → List UInt8) (lf : Nat → Int) (i : Nat) (M : List UInt8) (L : Int) (w : World) (hA : LkAt w a n lm lf) (hn : n ≤ 1000) (hcap : n ≤ cap) (hi : i < n) :
    Calls Tryd.prog 80 #[.slice a n cap, .int .i64 (i : Nat), .agg #[.string (tx M), .int .i64 L]] w fun e w' => (∃ a' c', e = .returned (.slice a' n c') ∧ n ≤ c' ∧ LkAt w' a' n (updF lm i M) (updF lf i L)) ∧ Below w.heap.size w w' := by
  obtain ⟨b, off, rfl, hb, _⟩ := hA i hi
  have hiI : (i : Int) < (n : Int) := by omega
  have hic : i ≤ cap := by omega
  have hnI : (n : Int) ≤ 1000 := by omega
  have hcI : (n : Int) ≤ (cap : Int) := by omega
  have HA := Lib.hid hA
  clear hA
  obtain ⟨i0, hi0, hz0, hz1, hz2⟩ := info_parts lkInfo
  go_enter Tryd.func80, Tryd.ntmps80
  go_wp2_with fail
  go_region_law (refine step_append_grows (by rfl) _ _ _ (by rfl) 37 i0 _ 2 24 Tryd.underlying23 hi0 hz0 hz1 hz2 rfl (by omega) (some ⟨b, off, none⟩) i i (lkc lm lf (fun t => 0 + t) i) (by rfl) (by simp) (lkc_len i) (by first | exact lkc_at0 (HA.out.on (by (repeat' (first | (with_reducible exact Below.refl _ _) | (with_reducible assumption) | (with_reducible refine Below.alloc ?_ ?_ _) | (with_reducible refine Below.drew ?_) | (with_reducible refine below_drewN ?_ _) | (with_reducible refine Below.setCell ?_ ?_ _) | (with_reducible refine below_after ?_ ?_ _) | (with_reducible refine below_set ?_) | (with_reducible refine After.size_le _ ?_) | (with_reducible refine size_alloc_le ?_) | (with_reducible refine size_set_le ?_) | (with_reducible refine size_drewN_le ?_) | go_size)))) (by omega) | exact lkc_at0 (HA.out.on (by simp; (repeat' (first | (with_reducible exact Below.refl _ _) | (with_reducible assumption) | (with_reducible refine Below.alloc ?_ ?_ _) | (with_reducible refine Below.drew ?_) | (with_reducible refine below_drewN ?_ _) | (with_reducible refine Below.setCell ?_ ?_ _) | (with_reducible refine below_after ?_ ?_ _) | (with_reducible refine below_set ?_) | (with_reducible refine After.size_le _ ?_) | (with_reducible refine size_alloc_le ?_) | (with_reducible refine size_set_le ?_) | (with_reducible refine size_drewN_le ?_) | go_size)))) (by omega)) ⟨w.heap.size + 1, 0, none⟩ 1 1 [.string (tx M), .int .i64 L] (by rfl) (by rfl) (World.news_of_block (cs := #[.string (tx M), .int .i64 L]) (t := 37) (fr := (0, 0)) (by first | (have h := heap_alloc_new (w.alloc (.cells #[.string (tx M), .int .i64 L] 37)) (.cells #[.string (tx M), .int .i64 L] 37); rw [World.size_alloc] at h; exact h) | (have h := heap_alloc_new (w.alloc (.cells #[.string (tx M), .int .i64 L] 37)).drew (.cells #[.string (tx M), .int .i64 L] 37); simp at h; exact h))) (by simp [Value.oneCell']) (by omega) (by unfold maxLen; omega) (by omega) ?_; intro v1 w1 hown1 hgrow1)
  have hB1 : Below w.heap.size w w1 := Below.grown (by first | (repeat' (first | (with_reducible exact Below.refl _ _) | (with_reducible assumption) | (with_reducible refine Below.alloc ?_ ?_ _) | (with_reducible refine Below.drew ?_) | (with_reducible refine below_drewN ?_ _) | (with_reducible refine Below.setCell ?_ ?_ _) | (with_reducible refine below_after ?_ ?_ _) | (with_reducible refine below_set ?_) | (with_reducible refine After.size_le _ ?_) | (with_reducible refine size_alloc_le ?_) | (with_reducible refine size_set_le ?_) | (with_reducible refine size_drewN_le ?_) | go_size)) | (simp; (repeat' (first | (with_reducible exact Below.refl _ _) | (with_reducible assumption) | (with_reducible refine Below.alloc ?_ ?_ _) | (with_reducible refine Below.drew ?_) | (with_reducible refine below_drewN ?_ _) | (with_reducible refine Below.setCell ?_ ?_ _) | (with_reducible refine below_after ?_ ?_ _) | (with_reducible refine below_set ?_) | (with_reducible refine After.size_le _ ?_) | (with_reducible refine size_alloc_le ?_) | (with_reducible refine size_set_le ?_) | (with_reducible refine size_drewN_le ?_) | go_size)))) hgrow1 (by simp; omega) (fun j e => by cases e)
  have hs1 := hB1.size
  have HO1 := Lib.hid hown1
  have HB1 := Lib.hid hB1
  have HAt := Lib.hid (lkc_at (HA.out.on hB1) (n - (i + 1)) (i + 1) (by omega))
  have hi1 : i + 1 ≤ n := by omega
  have hi1c : i + 1 ≤ cap := by omega
  have hbs := hgrow1.size
  simp only [World.size_drew, World.size_alloc] at hbs
  clear hown1 hgrow1 hB1
  have hiw : IntKind.i64.wrap ((i : Int) + 1) = (i : Int) + 1 := by rw [IntKind.wrap_i64]; omega
  by_cases hc : cap = i + 1
  · obtain rfl : n = i + 1 := by omega
    subst hc
    have HU := Lib.hid (lkc_upd (lm := lm) (lf := lf) hi M L)
    rw [show i + 1 - (i + 1) = 0 by omega] at HU
    go_wp2_with (at_builtin; refine wpList_append_own _ rfl _ _ 23 rfl _ 37 i0 _ 2 24 Tryd.underlying23 hi0 hz0 hz1 hz2 rfl (by decide) _ _ _ rfl HO1.out _ 0 _ (lkc lm lf (fun t => i + 1 + t) 0) rfl (lkc_len _) (by intro j u hu; simp [lkc] at hu) (lkc_one _ _ _ _) (by unfold maxLen; omega) (by omega) (by simp; omega) ?_; intro v2 w2 hown2 hgrow2 _)
    have hN : i + 1 + 0 = i + 1 := by omega
    rw [hN, HU.out] at hown2
    have HB2 := Lib.hid (HB1.out.grown hgrow2 (by omega) (fun j e => by have := (HO1.out.lt j e).1; simp at this; omega))
    obtain ⟨g2, c2, rfl⟩ := Go.Joins.ownsRow_form hown2 (by omega)
    have hc2 : i + 1 ≤ c2 := by
      rcases hown2.2 with ⟨h, _⟩ | ⟨g, cp, cur, h, _, _, h2, _⟩
      · cases h
      · cases h; exact h2
    have HI := Lib.hid (lkAt_of hown2)
    clear hown2 hgrow2
    go_ret
    exact ⟨⟨_, _, rfl, hc2, HI.out⟩, HB2.out⟩
  · have HU := Lib.hid (lkc_upd (lm := lm) (lf := lf) hi M L)
    go_wp2_with (at_builtin; refine wpList_append_own _ rfl _ _ 23 rfl _ 37 i0 _ 2 24 Tryd.underlying23 hi0 hz0 hz1 hz2 rfl (by decide) _ _ _ rfl HO1.out _ (n - (i + 1)) _ (lkc lm lf (fun t => i + 1 + t) (n - (i + 1))) rfl (lkc_len _) HAt.out (lkc_one _ _ _ _) (by unfold maxLen; omega) (by omega) (by simp; omega) ?_; intro v2 w2 hown2 hgrow2 _)
    have hN : i + 1 + (n - (i + 1)) = n := by omega
    rw [hN, HU.out] at hown2
    have HB2 := Lib.hid (HB1.out.grown hgrow2 (by omega) (fun j e => by have := (HO1.out.lt j e).1; simp at this; omega))
    obtain ⟨g2, c2, rfl⟩ := Go.Joins.ownsRow_form hown2 (by omega)
    have hc2 : n ≤ c2 := by
      rcases hown2.2 with ⟨h, _⟩ | ⟨g, cp, cur, h, _, _, h2, _⟩
      · cases h
      · cases h; exact h2
    have HI := Lib.hid (lkAt_of hown2)
    clear hown2 hgrow2
    go_ret
    exact ⟨⟨_, _, rfl, hc2, HI.out⟩, HB2.out⟩
end Go.Proofs.YtmbjgaeofkikkaaDoor
