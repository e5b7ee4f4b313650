/- Courses turned and shifted: plain mathematics, stores into own courses. slices.Clone and slices.Concat of courses. -/
import Derived.Test.YtplhbklfaokjbaaDoorCrown
import Derived.Lib.AppendZeros
namespace Go.Proofs.YtplhbklfaokjbaaDoor
open Go.RowKit
attribute [local go_sem] After.cell After.frozen After.lt After.le After.ne After.ne' After.set_eq After.size_set After.lt_add

set_option maxRecDepth 100000 in
set_option maxHeartbeats 1000000 in
theorem cloneC_any (b off cap n : Nat) (f : Nat → Nat → Int) (w : World) (hb : b < w.heap.size) (h1 : 1 ≤ n) (hn : n ≤ 1000) (hc : CrCells w b off n f) :
    Calls Tryd.prog 79 #[.slice (some ⟨b, off, none⟩) n cap] w fun e w' => ∃ v, e = .returned v ∧ CrOwn w' w.heap.size v n f ∧ Below w.heap.size w w' := by
  have HC : Hid (CrCells (w.alloc (.cells #[] 51)) b off n f) := Lib.hid (hc.on hb ((Below.refl _ w).alloc (Nat.le_refl _) _))
  clear hc
  obtain ⟨i0, hi, hz0, hz1, hz2⟩ := info_parts crInfo
  have hnil := fun (w : World) => Lib.run_eql_slice_nil (P := Tryd.prog) w 22 51 (some ⟨b, off, none⟩) n cap 0 0 Tryd.underlying22
  go_enter Tryd.func79, Tryd.ntmps79
  go_wp2_with (at_builtin; refine wpList_append_own _ rfl _ _ 22 rfl w.heap.size 51 i0 (.agg #[.int .i64 0, .int .i64 0, .int .i64 0, .int .i64 0, .int .i64 0, .int .i64 0]) 6 48 Tryd.underlying22 hi hz0 hz1 hz2 rfl (by decide) _ 0 [] rfl (World.ownsRow_lit w #[] 0 (Nat.le_refl _) (by unfold maxLen; omega) rfl) ⟨b, off, none⟩ n cap (crc n f) rfl (crc_len n f) (crc_cells HC.out) (crc_one n f) (by unfold maxLen; omega) (by omega) (by simp) ?_; intro v' w1 hown' hgrow _)
  have hb1 : Below w.heap.size w w1 := ((Below.refl w.heap.size w).alloc (Nat.le_refl _) (.cells #[] 51)).grown hgrow (by simp) (fun j e => by cases e; exact Nat.le_refl _)
  simp only [Nat.zero_add, List.nil_append] at hown'
  have HO := Lib.hid (crOwn_of hown' h1)
  have HB := Lib.hid hb1
  clear hown' hgrow hb1
  go_wp2
  go_ret
  exact ⟨_, rfl, HO.out, HB.out⟩

set_option maxRecDepth 100000 in
set_option maxHeartbeats 1000000 in
theorem growC_nil (n : Nat) (h0 : 0 < n) (hn : n ≤ 2000) (w : World) :
    Calls Tryd.prog 92 #[.slice none 0 0, .int .i64 n] w fun e w' => ∃ v, e = .returned v ∧ w'.ownsRow w.heap.size 51 6 v 0 [] ∧ Below w.heap.size w w' := by
  obtain ⟨i0, hi, hz0, hz1, hz2⟩ := info_parts crInfo
  have hn0 : decide ((n : Int) < 0) = false := decide_eq_false (by omega)
  have hn1 : decide (0 < (n : Int)) = true := decide_eq_true (by omega)
  have hn2 : (1 : Int) ≤ (n : Int) := by omega
  go_enter Tryd.func92, Tryd.ntmps92
  go_wp2_with (at_builtin; refine Lib.wpList_append_run _ rfl _ _ _ _ rfl _ _ rfl rfl _ _ (Lib.run_append_nil_zeros w 22 3 _ 51 i0 (.agg #[.int .i64 0, .int .i64 0, .int .i64 0, .int .i64 0, .int .i64 0, .int .i64 0]) .i64 .i64 Tryd.underlying22 Tryd.underlying3 hi hz0 n h0 (by omega) (by omega) (by rw [hz2]; omega)) ?_)
  go_ret
  exact ⟨_, rfl, (World.ownsRow_made w.drew _ _ (Nat.le_refl _) (grownCap_le_maxLen _ _ _ _ (by unfold maxLen; omega)) (by
    have := grownCap_ge w n 0 51
    rw [Array.size_append, size_zeroCells, size_zeroCells]
    show n * 6 + (grownCap w n 0 51 - n) * 6 = grownCap w n 0 51 * 6
    omega)), by (repeat' (first | (with_reducible exact Below.refl _ _) | (with_reducible assumption) | (with_reducible refine Below.alloc ?_ ?_ _) | (with_reducible refine Below.drew ?_) | (with_reducible refine below_drewN ?_ _) | (with_reducible refine Below.setCell ?_ ?_ _) | (with_reducible refine below_after ?_ ?_ _) | (with_reducible refine below_set ?_) | (with_reducible refine After.size_le _ ?_) | (with_reducible refine size_alloc_le ?_) | (with_reducible refine size_set_le ?_) | (with_reducible refine size_drewN_le ?_) | go_size))⟩

set_option maxRecDepth 100000 in
set_option maxHeartbeats 2000000 in
theorem concatC_any (n : Nat) (b off cap m : Nat → Nat) (F : Nat → Nat → Nat → Int) (cA : Nat → Nat) (XA : Nat → List Value) (xb : Nat) (w : World) (hx : xb < w.heap.size) (hn : n ≤ 10)
    (hc : ∀ k, k < n → w.cell? ⟨xb, k, none⟩ = some (.slice (some ⟨b k, off k, none⟩) (m k) (cap k))) (hV : ∀ k, k < n → b k < w.heap.size ∧ CrCells w (b k) (off k) (m k) (F k))
    (hA0 : cA 0 = 0 ∧ XA 0 = []) (hA : ∀ k, k < n → cA (k + 1) = cA k + m k ∧ XA (k + 1) = XA k ++ crc (m k) (F k)) (hlen : ∀ k, k ≤ n → cA k ≤ 1000) (h0 : 0 < cA n) :
    Calls Tryd.prog 78 #[.slice (some ⟨xb, 0, none⟩) n n] w fun e w' => ∃ v, e = .returned v ∧ w'.ownsRow w.heap.size 51 6 v (cA n) (XA n) ∧ Below w.heap.size w w' := by
  have HC := Lib.hid hc
  have HV := Lib.hid hV
  have HA := Lib.hid hA
  have HA0 := Lib.hid hA0
  have HL := Lib.hid hlen
  have HG : Hid (∀ W, _) := fun W => growC_nil (cA n) h0 (by have := hlen n (Nat.le_refl _); omega) W
  obtain ⟨i0, hi, hz0, hz1, hz2⟩ := info_parts crInfo
  clear hc hV hA hA0 hlen
  go_enter Tryd.func78, Tryd.ntmps78
  go_wp2
  go_loop [3, 5, 11] (fun t _ i => ∃ k : Nat, k ≤ n ∧ i = .int .i64 k ∧ t = .int .i64 (cA k : Int)) (fun _ _ i => n - (intOf i).toNat)
  case atStart => exact ⟨0, by omega, rfl, by rw [HA0.out.1]; rfl⟩
  case round =>
    obtain ⟨k, hk, rfl, rfl⟩ := hrel
    by_cases hlt : k < n
    · have c := HC.out k hlt
      have q1 := HL.out k hk
      have q2 := HL.out (k + 1) hlt
      have q3 : cA (k + 1) = cA k + m k := (HA.out k hlt).1
      have Q3 := Lib.hid q3
      rw [q3] at q2
      clear q3
      generalize cA k = t at *
      generalize m k = r at *
      have d1 : decide ((t : Int) + (r : Int) < 0) = false := decide_eq_false (by omega)
      go_wp2
      go_round
      case rel => exact ⟨k + 1, by omega, by go_num, by rw [Q3.out]; go_num⟩
      case measure => simp [intOf]; omega
    · obtain rfl : k = n := by omega
      have q1 := HL.out k hk
      generalize hm : cA k = t at HG h0 q1 ⊢
      go_wp2_with fail
      refine (HG.out _).mono ?_
      rintro e w1 ⟨v1, rfl, hr1, hb1⟩
      have HR1 := Lib.hid hr1
      obtain ⟨x1, rfl⟩ : ∃ x1 : After w, w1 = x1.w := ⟨⟨w1, hb1⟩, rfl⟩
      clear hr1 hb1 HG
      go_wp2_with fail
      go_loopw [6, 8, 27] (fun v u i wr => ∃ j : Nat, j ≤ k ∧ i = .int .i64 j ∧ ∃ x : After w, wr = x.w ∧ x.w.ownsRow w.heap.size 51 6 v (cA j) (XA j)) (fun _ _ i _ => k - (intOf i).toNat)
      case atStart => exact ⟨0, by omega, rfl, x1, rfl, by rw [HA0.out.1, HA0.out.2]; exact HR1.out⟩
      case round =>
        obtain ⟨j, hj, rfl, x, rfl, hown⟩ := hrel
        have hsx := x.out.size
        by_cases hlt : j < k
        · have c := HC.out j hlt
          have HP := Lib.hid ((HV.out j hlt).2.on (HV.out j hlt).1 x.out)
          have q2 := HL.out j hj
          have q3 : cA j + m j ≤ 1000 := by
            have := HL.out (j + 1) hlt
            rw [(HA.out j hlt).1] at this
            omega
          go_wp2_with (at_builtin; refine wpList_append_own _ rfl _ _ 22 rfl w.heap.size 51 i0 (.agg #[.int .i64 0, .int .i64 0, .int .i64 0, .int .i64 0, .int .i64 0, .int .i64 0]) 6 48 Tryd.underlying22 hi hz0 hz1 hz2 rfl (by decide) _ (cA j) (XA j) rfl hown ⟨b j, off j, none⟩ (m j) (cap j) (crc (m j) (F j)) rfl (crc_len _ _) (crc_cells HP.out) (crc_one _ _) (by unfold maxLen; omega) (by omega) hsx ?_; intro v' w1 hown' hgrow _)
          go_roundw
          case rel => exact ⟨j + 1, by omega, by go_num, ⟨w1, x.out.grown hgrow hsx (fun j e => (hown.lt j e).1)⟩, rfl, by rw [(HA.out j hlt).1, (HA.out j hlt).2]; exact hown'⟩
          case measure => simp [intOf]; omega
        · obtain rfl : j = k := by omega
          go_wp2
          go_ret
          exact ⟨_, rfl, by rw [← hm]; exact hown, x.out⟩
end Go.Proofs.YtplhbklfaokjbaaDoor
namespace Go.Proofs.YtplhbklfaokjbaaDoor
open Go.RowKit

def upC (f : Nat → Nat → Int) (k j : Nat) (v : Int) : Nat → Nat → Int := fun a b => if a = k ∧ b = j then v else f a b
theorem FillC.set {W : World} {g n k j : Nat} {f : Nat → Nat → Int} (v : Int) (h : FillC W g n f) (hk : k < n) (hj : j < 6) : FillC (W.setCell ⟨g, k * 6 + j, none⟩ (.int .i64 v)) g n (upC f k j v) := by
  refine ⟨by simpa using h.lt, fun o => by simpa using h.free o, fun i hi j' hj' => ?_⟩
  by_cases e : i = k ∧ j' = j
  · obtain ⟨rfl, rfl⟩ := e
    rw [World.cell?_setCell_same _ _ _ (h.got i hi j' hj')]
    simp [upC]
  · have ne : i * 6 + j' ≠ k * 6 + j := by omega
    rw [World.cell?_setCell_other _ _ _ _ (by first | (simp; done) | (simp; omega)), h.got i hi j' hj']
    simp [upC, e]
/-- Courses turned by a quarter. -/
def rotC (f : Nat → Nat → Int) : Nat → Nat → Int := fun i j => if j = 4 then -(f i 5) else if j = 5 then f i 4 else f i j
def rotN (f : Nat → Nat → Int) : Nat → Nat → Nat → Int
  | 0 => f
  | q + 1 => rotC (rotN f q)
/-- .. the first k of them. -/
def updC (f : Nat → Nat → Int) (k : Nat) : Nat → Nat → Int := fun i j => if i < k then rotC f i j else f i j
def BdC (n : Nat) (f : Nat → Nat → Int) : Prop := ∀ i, i < n → (-5000 ≤ f i 4 ∧ f i 4 ≤ 5000) ∧ (-5000 ≤ f i 5 ∧ f i 5 ≤ 5000)
theorem BdC.rot {n : Nat} {f : Nat → Nat → Int} (h : BdC n f) : BdC n (rotC f) := fun i hi => by
  have := h i hi
  simp only [rotC]
  simp
  omega
theorem BdC.rotN {n : Nat} {f : Nat → Nat → Int} (h : BdC n f) : ∀ q, BdC n (rotN f q)
  | 0 => h
  | q + 1 => (BdC.rotN h q).rot
theorem GoodC.bd {n : Nat} {f : Nat → Nat → Int} (h : GoodC n f) : BdC n f := fun i hi => by
  have := h.2.2 i hi
  unfold OkC InCr at this
  omega
theorem GoodC.rot {n : Nat} {f : Nat → Nat → Int} (h : GoodC n f) : GoodC n (rotC f) := ⟨h.1, h.2.1, fun k hk => by
  have := h.2.2 k hk
  unfold OkC InCr at *
  simp only [rotC]
  simp
  omega⟩
theorem FillC.step {W : World} {g n k : Nat} {f : Nat → Nat → Int} (h : FillC W g n (updC f k)) (hk : k < n) :
    FillC ((W.setCell ⟨g, k * 6 + 4, none⟩ (.int .i64 (-(f k 5)))).setCell ⟨g, k * 6 + 5, none⟩ (.int .i64 (f k 4))) g n (updC f (k + 1)) := by
  refine ((h.set (-(f k 5)) hk (j := 4) (by omega)).set (f k 4) hk (j := 5) (by omega)).congr fun i j hi hj => ?_
  unfold upC updC rotC
  by_cases e : i = k
  · subst e
    have : ¬ i < i := by omega
    have : i < i + 1 := by omega
    rcases (show j = 0 ∨ j = 1 ∨ j = 2 ∨ j = 3 ∨ j = 4 ∨ j = 5 by omega) with rfl | rfl | rfl | rfl | rfl | rfl <;> simp
  · have e1 : (i < k + 1) ↔ (i < k) := by omega
    simp only [e, false_and, if_false, e1]
theorem updC_zero (f : Nat → Nat → Int) : updC f 0 = f := by funext i j; simp [updC]
theorem FillC.full {W : World} {g n : Nat} {f : Nat → Nat → Int} (h : FillC W g n (updC f n)) : FillC W g n (rotC f) := h.congr fun i j hi _ => by simp [updC, hi]

/-- Courses shifted. -/
def shC (f : Nat → Nat → Int) (x y : Int) : Nat → Nat → Int := fun i j => if j = 4 then f i 4 + x else if j = 5 then f i 5 + y else f i j
/-- .. the first k of them. -/
def shK (f : Nat → Nat → Int) (x y : Int) (k : Nat) : Nat → Nat → Int := fun i j => if i < k then shC f x y i j else f i j
theorem shK_zero (f : Nat → Nat → Int) (x y : Int) : shK f x y 0 = f := by funext i j; simp [shK]
theorem FillC.shift {W : World} {g n k : Nat} {f : Nat → Nat → Int} {x y : Int} (h : FillC W g n (shK f x y k)) (hk : k < n) :
    FillC ((W.setCell ⟨g, k * 6 + 4, none⟩ (.int .i64 (f k 4 + x))).setCell ⟨g, k * 6 + 5, none⟩ (.int .i64 (f k 5 + y))) g n (shK f x y (k + 1)) := by
  refine ((h.set (f k 4 + x) hk (j := 4) (by omega)).set (f k 5 + y) hk (j := 5) (by omega)).congr fun i j hi hj => ?_
  unfold upC shK shC
  by_cases e : i = k
  · subst e
    rcases (show j = 0 ∨ j = 1 ∨ j = 2 ∨ j = 3 ∨ j = 4 ∨ j = 5 by omega) with rfl | rfl | rfl | rfl | rfl | rfl <;> simp
  · have e1 : (i < k + 1) ↔ (i < k) := by omega
    simp only [e, false_and, if_false, e1]
theorem FillC.shifted {W : World} {g n : Nat} {f : Nat → Nat → Int} {x y : Int} (h : FillC W g n (shK f x y n)) : FillC W g n (shC f x y) := h.congr fun i j hi _ => by simp [shK, hi]
def MidOk (x y : Int) : Prop := -5000 ≤ x ∧ x ≤ 5000 ∧ -5000 ≤ y ∧ y ≤ 5000
instance (x y : Int) : Decidable (MidOk x y) := by unfold MidOk; infer_instance
def ShOk (n : Nat) (f : Nat → Nat → Int) (x y : Int) : Prop := ∀ k, k < n → MidOk (f k 4 + x) (f k 5 + y)
instance (n : Nat) (f : Nat → Nat → Int) (x y : Int) : Decidable (ShOk n f x y) := by unfold ShOk; infer_instance
theorem shOk_good {n : Nat} {f : Nat → Nat → Int} {x y : Int} (hG : GoodC n f) : GoodC n (shC f x y) ↔ ShOk n f x y := by
  constructor
  · intro h k hk
    have := h.2.2 k hk
    unfold OkC InCr at this
    simp only [shC] at this
    simp at this
    unfold MidOk
    omega
  · intro h
    refine ⟨hG.1, hG.2.1, fun k hk => ?_⟩
    have h1 := hG.2.2 k hk
    have h2 := h k hk
    unfold MidOk at h2
    unfold OkC InCr at *
    simp only [shC]
    simp
    omega
end Go.Proofs.YtplhbklfaokjbaaDoor
