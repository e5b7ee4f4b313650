/- with, at items: a new list that has another item at one place. -/
import Derived.Test.YteojmhfocdlnoaaDoorTrGop
import Derived.Deep.RegionLawGrows
import Derived.WideShapes
namespace Go.Proofs.YteojmhfocdlnoaaDoor.Tr
open Go.Proofs.YteojmhfocdlnoaaDoor
open Go.RowKit
attribute [local go_sem] After.cell After.frozen After.lt After.le After.ne After.ne' After.set_eq After.size_set After.lt_add tx_size tx_toList

theorem itc_at {W : World} {b off n : Nat} {gm : Nat → List UInt8} {gl gd : Nat → Int} {gb : Nat → List UInt8} (h : ItAt W (some ⟨b, off, none⟩) n gm gl gd gb) : ∀ (k i : Nat), i + k ≤ n → ∀ j u, (itc gm gl gd gb (fun t => i + t) k)[j]? = some u → W.cell? ((⟨b, off + i * 4, none⟩ : Addr).add j) = some u := fun k i hk j u hu => by
  have hj : j < k * 4 := by
    have := (List.getElem?_eq_some_iff.1 hu).1
    rwa [itc_len] at this
  obtain ⟨t, c, rfl, hc⟩ : ∃ t c, j = t * 4 + c ∧ c < 4 := ⟨j / 4, j % 4, by omega, by omega⟩
  rw [itc_get (by omega) hc] at hu
  obtain ⟨b', off', e, hb, c0, c1, c2, c3⟩ := h (i + t) (by omega)
  cases e
  have ea : ((⟨b, off + i * 4, none⟩ : Addr).add (t * 4 + c)) = ⟨b, off + (i + t) * 4 + c, none⟩ := by
    rw [Go.WideShapes.add_plain]
    congr 1
    omega
  rw [ea]
  rcases (show c = 0 ∨ c = 1 ∨ c = 2 ∨ c = 3 by omega) with rfl | rfl | rfl | rfl
  · simp [itv] at hu; subst hu; exact c0
  · simp [itv] at hu; subst hu; exact c1
  · simp [itv] at hu; subst hu; exact c2
  · simp [itv] at hu; subst hu; exact c3
theorem itc_at0 {W : World} {b off n i : Nat} {gm : Nat → List UInt8} {gl gd : Nat → Int} {gb : Nat → List UInt8} (h : ItAt W (some ⟨b, off, none⟩) n gm gl gd gb) (hi : i ≤ n) : ∀ q : Addr, some (⟨b, off, none⟩ : Addr) = some q → ∀ j u, (itc gm gl gd gb (fun t => 0 + t) i)[j]? = some u → W.cell? (q.add j) = some u := fun q e j u hu => by
  cases e
  have := itc_at h i 0 (by omega) j u hu
  simpa using this
def updF {α : Type} (g : Nat → α) (i : Nat) (x : α) : Nat → α := fun k => if k = i then x else g k
theorem itc_s (gm : Nat → List UInt8) (gl gd : Nat → Int) (gb : Nat → List UInt8) (x : Nat → Nat) (k : Nat) : itc gm gl gd gb x (k + 1) = itc gm gl gd gb x k ++ itv gm gl gd gb (x k) := rfl
theorem itc_congr {gm gm' : Nat → List UInt8} {gl gd gl' gd' : Nat → Int} {gb gb' : Nat → List UInt8} {x x' : Nat → Nat} : ∀ k, (∀ t, t < k → itv gm gl gd gb (x t) = itv gm' gl' gd' gb' (x' t)) → itc gm gl gd gb x k = itc gm' gl' gd' gb' x' k
  | 0, _ => rfl
  | k + 1, h => by unfold itc; rw [itc_congr k (fun t ht => h t (by omega)), h k (by omega)]
theorem itc_add (gm : Nat → List UInt8) (gl gd : Nat → Int) (gb : Nat → List UInt8) (x : Nat → Nat) (p : Nat) : ∀ q, itc gm gl gd gb x (p + q) = itc gm gl gd gb x p ++ itc gm gl gd gb (fun t => x (p + t)) q
  | 0 => by simp [itc]
  | q + 1 => by rw [← Nat.add_assoc, itc_s, itc_s, itc_add gm gl gd gb x p q, List.append_assoc]
theorem itc_one (gm : Nat → List UInt8) (gl gd : Nat → Int) (gb : Nat → List UInt8) (x : Nat → Nat) : ∀ k, ∀ u ∈ itc gm gl gd gb x k, u.oneCell' = true
  | 0, u, hu => by cases hu
  | k + 1, u, hu => by
    unfold itc at hu
    rcases List.mem_append.1 hu with hu | hu
    · exact itc_one gm gl gd gb x k u hu
    · simp [itv] at hu
      rcases hu with rfl | rfl | rfl | rfl <;> rfl
/-- The cells of items of which one is another. -/
theorem itc_upd {gm : Nat → List UInt8} {gl gd : Nat → Int} {gb : Nat → List UInt8} {i n : Nat} (hi : i < n) (M B : List UInt8) (L D : Int) :
    itc gm gl gd gb (fun t => 0 + t) i ++ [.string (tx M), .int .i64 L, .int .i64 D, .string (tx B)] ++ itc gm gl gd gb (fun t => i + 1 + t) (n - (i + 1)) = itc (updF gm i M) (updF gl i L) (updF gd i D) (updF gb i B) (fun t => t) n := by
  have e : n = i + 1 + (n - (i + 1)) := by omega
  conv => rhs; rw [e, itc_add]
  congr 1
  · rw [itc_s]
    congr 1
    · refine itc_congr i (fun t ht => ?_)
      simp [itv, updF, show t ≠ i by omega]
    · simp [itv, updF]
  · refine itc_congr _ (fun t ht => ?_)
    simp [itv, updF, show i + 1 + t ≠ i by omega]
set_option maxRecDepth 100000 in
set_option maxHeartbeats 2000000 in
theorem withI_any (a : Option Addr) (n cap : Nat) (gm : Nat → List UInt8) (gl gd : Nat → Int) (gb : Nat → List UInt8) (i : Nat) (M B : List UInt8) (L D : Int) (w : World) (hA : ItAt w a n gm gl gd gb) (hn : n ≤ 1000) (hcap : n ≤ cap) (hi : i < n) :
    Calls Tryd.prog 19 #[.slice a n cap, .int .i64 (i : Nat), .agg #[.string (tx M), .int .i64 L, .int .i64 D, .string (tx B)]] w fun e w' => (∃ a' c', e = .returned (.slice a' n c') ∧ n ≤ c' ∧ ItAt w' a' n (updF gm i M) (updF gl i L) (updF gd i D) (updF gb i B)) ∧ Below w.heap.size w w' := by
  obtain ⟨b, off, rfl, hb, _⟩ := hA i hi
  have hiI : (i : Int) < (n : Int) := by omega
  have hic : i ≤ cap := by omega
  have hnI : (n : Int) ≤ 1000 := by omega
  have hcI : (n : Int) ≤ (cap : Int) := by omega
  have HA := Lib.hid hA
  clear hA
  obtain ⟨i0, hi0, hz0, hz1, hz2⟩ := info_parts itInfo
  go_enter Tryd.func19, Tryd.ntmps19
  go_wp2_with fail
  go_region_law (refine step_append_grows (by rfl) _ _ _ (by rfl) 38 i0 _ 4 48 Tryd.underlying22 hi0 hz0 hz1 hz2 rfl (by omega) (some ⟨b, off, none⟩) i i (itc gm gl gd gb (fun t => 0 + t) i) (by rfl) (by simp) (itc_len i) (by first | exact itc_at0 (HA.out.on (by (repeat' (first | (with_reducible exact Below.refl _ _) | (with_reducible assumption) | (with_reducible refine Below.alloc ?_ ?_ _) | (with_reducible refine Below.drew ?_) | (with_reducible refine below_drewN ?_ _) | (with_reducible refine Below.setCell ?_ ?_ _) | (with_reducible refine below_after ?_ ?_ _) | (with_reducible refine below_set ?_) | (with_reducible refine After.size_le _ ?_) | (with_reducible refine size_alloc_le ?_) | (with_reducible refine size_set_le ?_) | (with_reducible refine size_drewN_le ?_) | go_size)))) (by omega) | exact itc_at0 (HA.out.on (by simp; (repeat' (first | (with_reducible exact Below.refl _ _) | (with_reducible assumption) | (with_reducible refine Below.alloc ?_ ?_ _) | (with_reducible refine Below.drew ?_) | (with_reducible refine below_drewN ?_ _) | (with_reducible refine Below.setCell ?_ ?_ _) | (with_reducible refine below_after ?_ ?_ _) | (with_reducible refine below_set ?_) | (with_reducible refine After.size_le _ ?_) | (with_reducible refine size_alloc_le ?_) | (with_reducible refine size_set_le ?_) | (with_reducible refine size_drewN_le ?_) | go_size)))) (by omega)) ⟨w.heap.size + 1, 0, none⟩ 1 1 [.string (tx M), .int .i64 L, .int .i64 D, .string (tx B)] (by rfl) (by rfl) (World.news_of_block (cs := #[.string (tx M), .int .i64 L, .int .i64 D, .string (tx B)]) (t := 38) (fr := (0, 0)) (by first | (have h := heap_alloc_new (w.alloc (.cells #[.string (tx M), .int .i64 L, .int .i64 D, .string (tx B)] 38)) (.cells #[.string (tx M), .int .i64 L, .int .i64 D, .string (tx B)] 38); rw [World.size_alloc] at h; exact h) | (have h := heap_alloc_new (w.alloc (.cells #[.string (tx M), .int .i64 L, .int .i64 D, .string (tx B)] 38)).drew (.cells #[.string (tx M), .int .i64 L, .int .i64 D, .string (tx B)] 38); simp at h; exact h))) (by simp [Value.oneCell']) (by omega) (by unfold maxLen; omega) (by omega) ?_; intro v1 w1 hown1 hgrow1)
  have hB1 : Below w.heap.size w w1 := Below.grown (by first | (repeat' (first | (with_reducible exact Below.refl _ _) | (with_reducible assumption) | (with_reducible refine Below.alloc ?_ ?_ _) | (with_reducible refine Below.drew ?_) | (with_reducible refine below_drewN ?_ _) | (with_reducible refine Below.setCell ?_ ?_ _) | (with_reducible refine below_after ?_ ?_ _) | (with_reducible refine below_set ?_) | (with_reducible refine After.size_le _ ?_) | (with_reducible refine size_alloc_le ?_) | (with_reducible refine size_set_le ?_) | (with_reducible refine size_drewN_le ?_) | go_size)) | (simp; (repeat' (first | (with_reducible exact Below.refl _ _) | (with_reducible assumption) | (with_reducible refine Below.alloc ?_ ?_ _) | (with_reducible refine Below.drew ?_) | (with_reducible refine below_drewN ?_ _) | (with_reducible refine Below.setCell ?_ ?_ _) | (with_reducible refine below_after ?_ ?_ _) | (with_reducible refine below_set ?_) | (with_reducible refine After.size_le _ ?_) | (with_reducible refine size_alloc_le ?_) | (with_reducible refine size_set_le ?_) | (with_reducible refine size_drewN_le ?_) | go_size)))) hgrow1 (by simp; omega) (fun j e => by cases e)
  have hs1 := hB1.size
  have HO1 := Lib.hid hown1
  have HB1 := Lib.hid hB1
  have HAt := Lib.hid (itc_at (HA.out.on hB1) (n - (i + 1)) (i + 1) (by omega))
  have hi1 : i + 1 ≤ n := by omega
  have hi1c : i + 1 ≤ cap := by omega
  have hbs := hgrow1.size
  simp only [World.size_drew, World.size_alloc] at hbs
  clear hown1 hgrow1 hB1
  have hiw : IntKind.i64.wrap ((i : Int) + 1) = (i : Int) + 1 := by rw [IntKind.wrap_i64]; omega
  by_cases hc : cap = i + 1
  · obtain rfl : n = i + 1 := by omega
    subst hc
    have HU := Lib.hid (itc_upd (gm := gm) (gl := gl) (gd := gd) (gb := gb) hi M B L D)
    rw [show i + 1 - (i + 1) = 0 by omega] at HU
    go_wp2_with (at_builtin; refine wpList_append_own _ rfl _ _ 22 rfl _ 38 i0 _ 4 48 Tryd.underlying22 hi0 hz0 hz1 hz2 rfl (by decide) _ _ _ rfl HO1.out _ 0 _ (itc gm gl gd gb (fun t => i + 1 + t) 0) rfl (itc_len _) (by intro j u hu; simp [itc] at hu) (itc_one _ _ _ _ _ _) (by unfold maxLen; omega) (by omega) (by simp; omega) ?_; intro v2 w2 hown2 hgrow2 _)
    have hN : i + 1 + 0 = i + 1 := by omega
    rw [hN, HU.out] at hown2
    have HB2 := Lib.hid (HB1.out.grown hgrow2 (by omega) (fun j e => by have := (HO1.out.lt j e).1; simp at this; omega))
    obtain ⟨g2, c2, rfl⟩ := Go.Joins.ownsRow_form hown2 (by omega)
    have hc2 : i + 1 ≤ c2 := by
      rcases hown2.2 with ⟨h, _⟩ | ⟨g, cp, cur, h, _, _, h2, _⟩
      · cases h
      · cases h; exact h2
    have HI := Lib.hid (itAt_of (x := fun t => t) hown2)
    clear hown2 hgrow2
    go_ret
    exact ⟨⟨_, _, rfl, hc2, HI.out⟩, HB2.out⟩
  · have HU := Lib.hid (itc_upd (gm := gm) (gl := gl) (gd := gd) (gb := gb) hi M B L D)
    go_wp2_with (at_builtin; refine wpList_append_own _ rfl _ _ 22 rfl _ 38 i0 _ 4 48 Tryd.underlying22 hi0 hz0 hz1 hz2 rfl (by decide) _ _ _ rfl HO1.out _ (n - (i + 1)) _ (itc gm gl gd gb (fun t => i + 1 + t) (n - (i + 1))) rfl (itc_len _) HAt.out (itc_one _ _ _ _ _ _) (by unfold maxLen; omega) (by omega) (by simp; omega) ?_; intro v2 w2 hown2 hgrow2 _)
    have hN : i + 1 + (n - (i + 1)) = n := by omega
    rw [hN, HU.out] at hown2
    have HB2 := Lib.hid (HB1.out.grown hgrow2 (by omega) (fun j e => by have := (HO1.out.lt j e).1; simp at this; omega))
    obtain ⟨g2, c2, rfl⟩ := Go.Joins.ownsRow_form hown2 (by omega)
    have hc2 : n ≤ c2 := by
      rcases hown2.2 with ⟨h, _⟩ | ⟨g, cp, cur, h, _, _, h2, _⟩
      · cases h
      · cases h; exact h2
    have HI := Lib.hid (itAt_of (x := fun t => t) hown2)
    clear hown2 hgrow2
    go_ret
    exact ⟨⟨_, _, rfl, hc2, HI.out⟩, HB2.out⟩
end Go.Proofs.YteojmhfocdlnoaaDoor.Tr
