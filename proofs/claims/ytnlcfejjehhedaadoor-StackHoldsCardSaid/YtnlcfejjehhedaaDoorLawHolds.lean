/- StackHolds: a closed bed holds; the law's walk. -/
import Derived.Test.YtnlcfejjehhedaaDoorOpensay
namespace Go.Proofs.YtnlcfejjehhedaaDoor
open Go.RowKit

theorem cl_ho {A B o i D : Nat} (ho : 0 < o) (hi : i ≤ o) (h : (A + B) * (3 * o) ≤ (o * o + i * i) * D) : A ≤ o * D ∧ B ≤ o * D := by
  have h1 : i * i ≤ o * o := Nat.mul_le_mul hi hi
  have h2 : (o * o + i * i) * D ≤ (o * o + o * o) * D := Nat.mul_le_mul_right _ (by omega)
  have h3 : (A + B) * 3 * o ≤ (2 * (o * D)) * o := by
    have e1 : (A + B) * 3 * o = (A + B) * (3 * o) := Nat.mul_assoc ..
    have e2 : (o * o + o * o) * D = (2 * (o * D)) * o := by grind
    omega
  have h4 := Nat.le_of_mul_le_mul_right h3 ho
  generalize o * D = X at *
  omega
theorem closed_holds {f : Nat → Nat → Int} {n k : Nat} (hG : GoodC n f) (hk : k < n) (p : Int) (s : Nat) (h : clB (bI f n k) p s = true) : hoB (bI f n k) p s = true := by
  unfold clB at h
  unfold hoB
  have hO := hG.2.2 k hk
  unfold OkC InCr at hO
  rw [(bI_ix (f := f) hk).2] at *
  exact decide_eq_true (cl_ho (by omega) (by omega) (of_decide_eq_true h))
theorem topF_closed {f : Nat → Nat → Int} {n : Nat} {p : Int} {s : Nat} (hG : GoodC n f) (h : opL f n p s n = []) : topF f n p s = none := by
  refine topF_none2 fun k hk => closed_holds hG hk p s ?_
  unfold opL at h
  have := List.filter_eq_nil_iff.1 h k (List.mem_range.2 hk)
  simpa using this

theorem cholds {w : World} {a : Option Addr} {n cap : Nat} {f : Nat → Nat → Int} (hT : Tab w) (h : Crs w w.heap.size (.slice a n cap) n f) (hl : n ≤ 1000) (i p s : Int) :
    ∃ (z1 z2 : Bool) (e : Int), (z1 = true → z2 = true) ∧ LSay w 27 #[.slice a n cap, .int .i64 i, .int .i64 p, .int .i64 s] (.tuple #[.bool z1, .int .i64 e]) ∧ LSay w 29 #[.slice a n cap, .int .i64 i, .int .i64 p, .int .i64 s] (.tuple #[.bool z2, .int .i64 e]) := by
  rcases winds h hl i p s with ⟨hG, h0, hi, hw⟩ | ⟨e, he, hA, hE⟩
  · obtain ⟨k, rfl⟩ := Int.eq_ofNat_of_zero_le h0
    obtain ⟨s, rfl⟩ := Int.eq_ofNat_of_zero_le hw.2.1
    have hk : k < n := by omega
    have hs : s < 4 := by have := hw.2; unfold Btw at this; omega
    obtain ⟨hA, hE, hO, hR, b, off, rfl, hb, hK⟩ := winds_in h hG hk hw
    have hI := inB_bI hG hk
    have hJ := inO_bI hG hk
    exact ⟨_, _, _, closed_holds hG hk p s, fun W hW => closed_ok _ n cap _ p s _ _ W (hA.on2 hW) (fun V hV => closed_any _ p s V ((hT.on hW).on hV) hI hJ hs hw.1.1 hw.1.2),
      fun W hW => holds_ok _ n cap _ p s _ _ W (hA.on2 hW) (fun V hV => holds_any _ p s V ((hT.on hW).on hV) hI hJ hs hw.1.1 hw.1.2)⟩
  · exact ⟨false, false, e, fun h => h, fun W hW => closed_err a n cap i p s e W (hA.on2 hW) he, fun W hW => holds_err a n cap i p s e W (hA.on2 hW) he⟩
theorem ostands {w : World} {a : Option Addr} {n cap : Nat} {f : Nat → Nat → Int} (hT : Tab w) (h : Crs w w.heap.size (.slice a n cap) n f) (hl : n ≤ 1000) (p s : Int) :
    ∃ (L : List Nat) (e : Int) (z : Bool), ((e != 0) = true ∨ 0 < L.length ∨ z = true) ∧ QSay w 31 #[.slice a n cap, .int .i64 p, .int .i64 s] L e ∧ LSay w 34 #[.slice a n cap, .int .i64 p, .int .i64 s] (.tuple #[.bool z, .int .i64 e]) := by
  have hW := wsay h hl p s
  by_cases hok : GoodC n f ∧ WindOk p s
  · obtain ⟨hG, hw⟩ := hok
    obtain ⟨s, rfl⟩ := Int.eq_ofNat_of_zero_le hw.2.1
    have h1 := hG.1
    rw [show cwE (decide (GoodC n f)) p (s : Nat) = 0 by unfold cwE; rw [decide_eq_true hG, if_pos rfl, if_pos hw]] at hW
    have hh := h
    obtain ⟨a', cap', e1, hc⟩ := hh
    cases e1
    obtain ⟨b, off, rfl, hb, hc⟩ := hc hG.1
    have hF : LSay w 36 #[.slice (some ⟨b, off, none⟩) n cap, .int .i64 p, .int .i64 (s : Nat)] (.tuple #[.int .i64 (faK (topF f n p s)), .int .i64 (faE (topF f n p s))]) := fun W hB => falls_ok b off cap n f p s W (Nat.lt_of_lt_of_le hb hB.size) (hc.on hb hB) hG (hT.on hB) hw (hW.on2 hB)
    have hst : ∀ o : Option Nat, (faE o == 8) = o.isNone ∧ (if faE o == 8 then 0 else faE o) = 0 := fun o => by cases o <;> simp [faE]
    refine ⟨opL f n p s n, 0, (topF f n p s).isNone, ?_, fun W hB => open_ok b off cap n f p s W (Nat.lt_of_lt_of_le hb hB.size) (hc.on hb hB) hG (hT.on hB) hw (hW.on2 hB), fun W hB => ?_⟩
    · by_cases h0 : opL f n p s n = []
      · exact .inr (.inr (by rw [topF_closed hG h0]; rfl))
      · exact .inr (.inl (List.length_pos_iff.2 h0))
    · have := stands_by (.slice (some ⟨b, off, none⟩) n cap) p (s : Nat) _ _ W (fun V hV => hF V (hB.trans (hV.mono hB.size)))
      rwa [(hst _).1, ← (hst _).1, (hst _).2, (hst _).1] at this
  · obtain ⟨e, he, h8, hn, hW'⟩ : ∃ e : Int, (e == 0) = false ∧ (e == 8) = false ∧ (e != 0) = true ∧ WSay w (.slice a n cap) p s e := by
      by_cases hG : GoodC n f
      · have hw : ¬ WindOk p s := fun h => hok ⟨hG, h⟩
        rw [show cwE (decide (GoodC n f)) p s = 7 by unfold cwE; rw [decide_eq_true hG, if_pos rfl, if_neg hw]] at hW
        exact ⟨7, rfl, rfl, rfl, hW⟩
      · rw [show cwE (decide (GoodC n f)) p s = 1 by unfold cwE; rw [decide_eq_false hG]; rfl] at hW
        exact ⟨1, rfl, rfl, rfl, hW⟩
    have hF : LSay w 36 #[.slice a n cap, .int .i64 p, .int .i64 s] (.tuple #[.int .i64 0, .int .i64 e]) := fun W hB => falls_err a n cap p s e W (hW'.on2 hB) he
    refine ⟨[], e, false, .inl hn, fun W hB => (open_err a n cap p s e W (hW'.on2 hB) he).mono fun r w' ⟨h1, h2⟩ => ⟨_, h1, irow_nil _ _, h2⟩, fun W hB => ?_⟩
    have := stands_by (.slice a n cap) p s _ _ W (fun V hV => hF V (hB.trans (hV.mono hB.size)))
    rw [h8] at this
    simpa using this

attribute [local go_sem] After.cell After.frozen After.lt After.le After.ne After.ne' After.set_eq After.size_set After.lt_add
set_option maxRecDepth 100000 in
set_option maxHeartbeats 1000000 in
theorem stackHolds_long (a : Option Addr) (n cap : Nat) (i p s : Int) (w : World) (hT : Tab w) (h : 60 < n) :
    Calls Tryd.prog 12 #[.slice a n cap, .agg #[.int .i64 i, .int .i64 p, .int .i64 s]] w fun e w' => e = .returned (.bool true) ∧ Below w.heap.size w w' := by
  have d1 : decide ((60 : Int) < (n : Int)) = true := decide_eq_true (by omega)
  have HT : Hid (∀ W, Below w.heap.size w W → _) := fun W hW => awake_any W (hT.on hW)
  clear hT
  go_enter Tryd.func12, Tryd.ntmps12
  go_wp2_with fail
  refine calls_after (HT.out _ (by (repeat' (first | (with_reducible exact Below.refl _ _) | (with_reducible assumption) | (with_reducible refine Below.alloc ?_ ?_ _) | (with_reducible refine Below.drew ?_) | (with_reducible refine below_drewN ?_ _) | (with_reducible refine Below.setCell ?_ ?_ _) | (with_reducible refine below_after ?_ ?_ _) | (with_reducible refine below_set ?_) | (with_reducible refine After.size_le _ ?_) | (with_reducible refine size_alloc_le ?_) | (with_reducible refine size_set_le ?_) | (with_reducible refine size_drewN_le ?_) | go_size)))) ?_
  intro x1
  go_wp2
  go_ret
  exact ⟨rfl, by (repeat' (first | (with_reducible exact Below.refl _ _) | (with_reducible assumption) | (with_reducible refine Below.alloc ?_ ?_ _) | (with_reducible refine Below.drew ?_) | (with_reducible refine below_drewN ?_ _) | (with_reducible refine Below.setCell ?_ ?_ _) | (with_reducible refine below_after ?_ ?_ _) | (with_reducible refine below_set ?_) | (with_reducible refine After.size_le _ ?_) | (with_reducible refine size_alloc_le ?_) | (with_reducible refine size_set_le ?_) | (with_reducible refine size_drewN_le ?_) | go_size))⟩
set_option maxRecDepth 100000 in
set_option maxHeartbeats 4000000 in
theorem stackHolds_any (v : Value) (n : Nat) (f : Nat → Nat → Int) (i p s : Int) (w : World) (hT : Tab w) (h : Crs w w.heap.size v n f) :
    Calls Tryd.prog 12 #[v, .agg #[.int .i64 i, .int .i64 p, .int .i64 s]] w fun e w' => e = .returned (.bool true) ∧ Below w.heap.size w w' := by
  by_cases hl : n ≤ 60
  · have hh := h
    obtain ⟨a, cap, rfl, _⟩ := hh
    obtain ⟨z1, z2, e1, hz, h1, h2⟩ := cholds hT h (by omega) i p s
    obtain ⟨L, e2, z3, hor, h3, h4⟩ := ostands hT h (by omega) p s
    have H1 : Hid (∀ W, Below w.heap.size w W → _) := h1
    have H2 : Hid (∀ W, Below w.heap.size w W → _) := h2
    have H3 : Hid (∀ W, Below w.heap.size w W → _) := h3
    have H4 : Hid (∀ W, Below w.heap.size w W → _) := h4
    have H9 : Hid (∀ W, Below w.heap.size w W → _) := fun W hW => awake_any W (hT.on hW)
    clear h1 h2 h3 h4 hT h
    have d1 : decide ((60 : Int) < (n : Int)) = false := decide_eq_false (by omega)
    obtain ⟨q1, f1⟩ : ∃ q, (e2 != 0) = q := ⟨_, rfl⟩
    obtain ⟨q2, f2⟩ : ∃ q, decide (0 < L.length) = q := ⟨_, rfl⟩
    have hq : q1 = true ∨ q2 = true ∨ z3 = true := by
      rcases hor with h | h | h
      · exact .inl (f1 ▸ h)
      · exact .inr (.inl (f2 ▸ decide_eq_true h))
      · exact .inr (.inr h)
    have f3 : decide ((0 : Int) < (L.length : Int)) = q2 := by rw [← f2]; exact decide_eq_decide.2 (by omega)
    clear hor
    have hzz : z1 = false ∨ (z1 = true ∧ z2 = true) := by cases z1 with | false => exact .inl rfl | true => exact .inr ⟨rfl, hz rfl⟩
    clear hz
    cases q1
    · cases q2
      · obtain rfl : z3 = true := by simpa using hq
        clear hq
        rcases hzz with rfl | ⟨rfl, rfl⟩
        · skip
          go_enter Tryd.func12, Tryd.ntmps12
          (go_wp2_with fail); refine calls_after (H1.out _ (by (repeat' (first | (with_reducible exact Below.refl _ _) | (with_reducible assumption) | (with_reducible refine Below.alloc ?_ ?_ _) | (with_reducible refine Below.drew ?_) | (with_reducible refine below_drewN ?_ _) | (with_reducible refine Below.setCell ?_ ?_ _) | (with_reducible refine below_after ?_ ?_ _) | (with_reducible refine below_set ?_) | (with_reducible refine After.size_le _ ?_) | (with_reducible refine size_alloc_le ?_) | (with_reducible refine size_set_le ?_) | (with_reducible refine size_drewN_le ?_) | go_size)))) ?_; intro x1; have hz_x1 := x1.out.size; (try simp only [World.size_alloc] at hz_x1); (try simp only [World.size_setCell] at hz_x1); (try simp only [World.size_alloc] at hz_x1); have k0_x1 : w.heap.size < x1.w.heap.size := (by omega); have j0_x1 : w.heap.size < x1.w.heap.size + 1 := (by omega)
          (go_wp2_with fail); refine calls_after2 (H2.out _ (by (repeat' (first | (with_reducible exact Below.refl _ _) | (with_reducible assumption) | (with_reducible refine Below.alloc ?_ ?_ _) | (with_reducible refine Below.drew ?_) | (with_reducible refine below_drewN ?_ _) | (with_reducible refine Below.setCell ?_ ?_ _) | (with_reducible refine below_after ?_ ?_ _) | (with_reducible refine below_set ?_) | (with_reducible refine After.size_le _ ?_) | (with_reducible refine size_alloc_le ?_) | (with_reducible refine size_set_le ?_) | (with_reducible refine size_drewN_le ?_) | go_size)))) ?_; intro x2; have hz_x2 := x2.out.size; (try simp only [World.size_alloc] at hz_x2); (try simp only [World.size_setCell] at hz_x2); (try simp only [World.size_alloc] at hz_x2); have k0_x2 : w.heap.size < x2.w.heap.size := (by omega); have j0_x2 : w.heap.size < x2.w.heap.size + 1 := (by omega)
          go_wp2_with fail
          refine (H3.out _ (by (repeat' (first | (with_reducible exact Below.refl _ _) | (with_reducible assumption) | (with_reducible refine Below.alloc ?_ ?_ _) | (with_reducible refine Below.drew ?_) | (with_reducible refine below_drewN ?_ _) | (with_reducible refine Below.setCell ?_ ?_ _) | (with_reducible refine below_after ?_ ?_ _) | (with_reducible refine below_set ?_) | (with_reducible refine After.size_le _ ?_) | (with_reducible refine size_alloc_le ?_) | (with_reducible refine size_set_le ?_) | (with_reducible refine size_drewN_le ?_) | go_size)))).mono ?_
          rintro e w1 ⟨v1, rfl, ⟨a1, c1, rfl, _⟩, b1⟩
          obtain ⟨x3, rfl⟩ := after_ofB (x2.out.trans (b1.mono x2.out.size))
          clear b1
          have hz_x3 := x3.out.size; (try simp only [World.size_alloc] at hz_x3); (try simp only [World.size_setCell] at hz_x3); (try simp only [World.size_alloc] at hz_x3); have k0_x3 : w.heap.size < x3.w.heap.size := (by omega); have j0_x3 : w.heap.size < x3.w.heap.size + 1 := (by omega)
          (go_wp2_with fail); refine calls_after2 (H4.out _ (by (repeat' (first | (with_reducible exact Below.refl _ _) | (with_reducible assumption) | (with_reducible refine Below.alloc ?_ ?_ _) | (with_reducible refine Below.drew ?_) | (with_reducible refine below_drewN ?_ _) | (with_reducible refine Below.setCell ?_ ?_ _) | (with_reducible refine below_after ?_ ?_ _) | (with_reducible refine below_set ?_) | (with_reducible refine After.size_le _ ?_) | (with_reducible refine size_alloc_le ?_) | (with_reducible refine size_set_le ?_) | (with_reducible refine size_drewN_le ?_) | go_size)))) ?_; intro x4
          (go_wp2_with fail); refine calls_after2 (H9.out _ (by (repeat' (first | (with_reducible exact Below.refl _ _) | (with_reducible assumption) | (with_reducible refine Below.alloc ?_ ?_ _) | (with_reducible refine Below.drew ?_) | (with_reducible refine below_drewN ?_ _) | (with_reducible refine Below.setCell ?_ ?_ _) | (with_reducible refine below_after ?_ ?_ _) | (with_reducible refine below_set ?_) | (with_reducible refine After.size_le _ ?_) | (with_reducible refine size_alloc_le ?_) | (with_reducible refine size_set_le ?_) | (with_reducible refine size_drewN_le ?_) | go_size)))) ?_; intro x5
          go_wp2
          go_ret
          exact ⟨rfl, by (repeat' (first | (with_reducible exact Below.refl _ _) | (with_reducible assumption) | (with_reducible refine Below.alloc ?_ ?_ _) | (with_reducible refine Below.drew ?_) | (with_reducible refine below_drewN ?_ _) | (with_reducible refine Below.setCell ?_ ?_ _) | (with_reducible refine below_after ?_ ?_ _) | (with_reducible refine below_set ?_) | (with_reducible refine After.size_le _ ?_) | (with_reducible refine size_alloc_le ?_) | (with_reducible refine size_set_le ?_) | (with_reducible refine size_drewN_le ?_) | go_size))⟩
        · skip
          go_enter Tryd.func12, Tryd.ntmps12
          (go_wp2_with fail); refine calls_after (H1.out _ (by (repeat' (first | (with_reducible exact Below.refl _ _) | (with_reducible assumption) | (with_reducible refine Below.alloc ?_ ?_ _) | (with_reducible refine Below.drew ?_) | (with_reducible refine below_drewN ?_ _) | (with_reducible refine Below.setCell ?_ ?_ _) | (with_reducible refine below_after ?_ ?_ _) | (with_reducible refine below_set ?_) | (with_reducible refine After.size_le _ ?_) | (with_reducible refine size_alloc_le ?_) | (with_reducible refine size_set_le ?_) | (with_reducible refine size_drewN_le ?_) | go_size)))) ?_; intro x1; have hz_x1 := x1.out.size; (try simp only [World.size_alloc] at hz_x1); (try simp only [World.size_setCell] at hz_x1); (try simp only [World.size_alloc] at hz_x1); have k0_x1 : w.heap.size < x1.w.heap.size := (by omega); have j0_x1 : w.heap.size < x1.w.heap.size + 1 := (by omega)
          (go_wp2_with fail); refine calls_after2 (H2.out _ (by (repeat' (first | (with_reducible exact Below.refl _ _) | (with_reducible assumption) | (with_reducible refine Below.alloc ?_ ?_ _) | (with_reducible refine Below.drew ?_) | (with_reducible refine below_drewN ?_ _) | (with_reducible refine Below.setCell ?_ ?_ _) | (with_reducible refine below_after ?_ ?_ _) | (with_reducible refine below_set ?_) | (with_reducible refine After.size_le _ ?_) | (with_reducible refine size_alloc_le ?_) | (with_reducible refine size_set_le ?_) | (with_reducible refine size_drewN_le ?_) | go_size)))) ?_; intro x2; have hz_x2 := x2.out.size; (try simp only [World.size_alloc] at hz_x2); (try simp only [World.size_setCell] at hz_x2); (try simp only [World.size_alloc] at hz_x2); have k0_x2 : w.heap.size < x2.w.heap.size := (by omega); have j0_x2 : w.heap.size < x2.w.heap.size + 1 := (by omega)
          go_wp2_with fail
          refine (H3.out _ (by (repeat' (first | (with_reducible exact Below.refl _ _) | (with_reducible assumption) | (with_reducible refine Below.alloc ?_ ?_ _) | (with_reducible refine Below.drew ?_) | (with_reducible refine below_drewN ?_ _) | (with_reducible refine Below.setCell ?_ ?_ _) | (with_reducible refine below_after ?_ ?_ _) | (with_reducible refine below_set ?_) | (with_reducible refine After.size_le _ ?_) | (with_reducible refine size_alloc_le ?_) | (with_reducible refine size_set_le ?_) | (with_reducible refine size_drewN_le ?_) | go_size)))).mono ?_
          rintro e w1 ⟨v1, rfl, ⟨a1, c1, rfl, _⟩, b1⟩
          obtain ⟨x3, rfl⟩ := after_ofB (x2.out.trans (b1.mono x2.out.size))
          clear b1
          have hz_x3 := x3.out.size; (try simp only [World.size_alloc] at hz_x3); (try simp only [World.size_setCell] at hz_x3); (try simp only [World.size_alloc] at hz_x3); have k0_x3 : w.heap.size < x3.w.heap.size := (by omega); have j0_x3 : w.heap.size < x3.w.heap.size + 1 := (by omega)
          (go_wp2_with fail); refine calls_after2 (H4.out _ (by (repeat' (first | (with_reducible exact Below.refl _ _) | (with_reducible assumption) | (with_reducible refine Below.alloc ?_ ?_ _) | (with_reducible refine Below.drew ?_) | (with_reducible refine below_drewN ?_ _) | (with_reducible refine Below.setCell ?_ ?_ _) | (with_reducible refine below_after ?_ ?_ _) | (with_reducible refine below_set ?_) | (with_reducible refine After.size_le _ ?_) | (with_reducible refine size_alloc_le ?_) | (with_reducible refine size_set_le ?_) | (with_reducible refine size_drewN_le ?_) | go_size)))) ?_; intro x4
          (go_wp2_with fail); refine calls_after2 (H9.out _ (by (repeat' (first | (with_reducible exact Below.refl _ _) | (with_reducible assumption) | (with_reducible refine Below.alloc ?_ ?_ _) | (with_reducible refine Below.drew ?_) | (with_reducible refine below_drewN ?_ _) | (with_reducible refine Below.setCell ?_ ?_ _) | (with_reducible refine below_after ?_ ?_ _) | (with_reducible refine below_set ?_) | (with_reducible refine After.size_le _ ?_) | (with_reducible refine size_alloc_le ?_) | (with_reducible refine size_set_le ?_) | (with_reducible refine size_drewN_le ?_) | go_size)))) ?_; intro x5
          go_wp2
          go_ret
          exact ⟨rfl, by (repeat' (first | (with_reducible exact Below.refl _ _) | (with_reducible assumption) | (with_reducible refine Below.alloc ?_ ?_ _) | (with_reducible refine Below.drew ?_) | (with_reducible refine below_drewN ?_ _) | (with_reducible refine Below.setCell ?_ ?_ _) | (with_reducible refine below_after ?_ ?_ _) | (with_reducible refine below_set ?_) | (with_reducible refine After.size_le _ ?_) | (with_reducible refine size_alloc_le ?_) | (with_reducible refine size_set_le ?_) | (with_reducible refine size_drewN_le ?_) | go_size))⟩
      · clear hq
        rcases hzz with rfl | ⟨rfl, rfl⟩
        · skip
          go_enter Tryd.func12, Tryd.ntmps12
          (go_wp2_with fail); refine calls_after (H1.out _ (by (repeat' (first | (with_reducible exact Below.refl _ _) | (with_reducible assumption) | (with_reducible refine Below.alloc ?_ ?_ _) | (with_reducible refine Below.drew ?_) | (with_reducible refine below_drewN ?_ _) | (with_reducible refine Below.setCell ?_ ?_ _) | (with_reducible refine below_after ?_ ?_ _) | (with_reducible refine below_set ?_) | (with_reducible refine After.size_le _ ?_) | (with_reducible refine size_alloc_le ?_) | (with_reducible refine size_set_le ?_) | (with_reducible refine size_drewN_le ?_) | go_size)))) ?_; intro x1; have hz_x1 := x1.out.size; (try simp only [World.size_alloc] at hz_x1); (try simp only [World.size_setCell] at hz_x1); (try simp only [World.size_alloc] at hz_x1); have k0_x1 : w.heap.size < x1.w.heap.size := (by omega); have j0_x1 : w.heap.size < x1.w.heap.size + 1 := (by omega)
          (go_wp2_with fail); refine calls_after2 (H2.out _ (by (repeat' (first | (with_reducible exact Below.refl _ _) | (with_reducible assumption) | (with_reducible refine Below.alloc ?_ ?_ _) | (with_reducible refine Below.drew ?_) | (with_reducible refine below_drewN ?_ _) | (with_reducible refine Below.setCell ?_ ?_ _) | (with_reducible refine below_after ?_ ?_ _) | (with_reducible refine below_set ?_) | (with_reducible refine After.size_le _ ?_) | (with_reducible refine size_alloc_le ?_) | (with_reducible refine size_set_le ?_) | (with_reducible refine size_drewN_le ?_) | go_size)))) ?_; intro x2; have hz_x2 := x2.out.size; (try simp only [World.size_alloc] at hz_x2); (try simp only [World.size_setCell] at hz_x2); (try simp only [World.size_alloc] at hz_x2); have k0_x2 : w.heap.size < x2.w.heap.size := (by omega); have j0_x2 : w.heap.size < x2.w.heap.size + 1 := (by omega)
          go_wp2_with fail
          refine (H3.out _ (by (repeat' (first | (with_reducible exact Below.refl _ _) | (with_reducible assumption) | (with_reducible refine Below.alloc ?_ ?_ _) | (with_reducible refine Below.drew ?_) | (with_reducible refine below_drewN ?_ _) | (with_reducible refine Below.setCell ?_ ?_ _) | (with_reducible refine below_after ?_ ?_ _) | (with_reducible refine below_set ?_) | (with_reducible refine After.size_le _ ?_) | (with_reducible refine size_alloc_le ?_) | (with_reducible refine size_set_le ?_) | (with_reducible refine size_drewN_le ?_) | go_size)))).mono ?_
          rintro e w1 ⟨v1, rfl, ⟨a1, c1, rfl, _⟩, b1⟩
          obtain ⟨x3, rfl⟩ := after_ofB (x2.out.trans (b1.mono x2.out.size))
          clear b1
          have hz_x3 := x3.out.size; (try simp only [World.size_alloc] at hz_x3); (try simp only [World.size_setCell] at hz_x3); (try simp only [World.size_alloc] at hz_x3); have k0_x3 : w.heap.size < x3.w.heap.size := (by omega); have j0_x3 : w.heap.size < x3.w.heap.size + 1 := (by omega)
          (go_wp2_with fail); refine calls_after2 (H4.out _ (by (repeat' (first | (with_reducible exact Below.refl _ _) | (with_reducible assumption) | (with_reducible refine Below.alloc ?_ ?_ _) | (with_reducible refine Below.drew ?_) | (with_reducible refine below_drewN ?_ _) | (with_reducible refine Below.setCell ?_ ?_ _) | (with_reducible refine below_after ?_ ?_ _) | (with_reducible refine below_set ?_) | (with_reducible refine After.size_le _ ?_) | (with_reducible refine size_alloc_le ?_) | (with_reducible refine size_set_le ?_) | (with_reducible refine size_drewN_le ?_) | go_size)))) ?_; intro x4
          (go_wp2_with fail); refine calls_after2 (H9.out _ (by (repeat' (first | (with_reducible exact Below.refl _ _) | (with_reducible assumption) | (with_reducible refine Below.alloc ?_ ?_ _) | (with_reducible refine Below.drew ?_) | (with_reducible refine below_drewN ?_ _) | (with_reducible refine Below.setCell ?_ ?_ _) | (with_reducible refine below_after ?_ ?_ _) | (with_reducible refine below_set ?_) | (with_reducible refine After.size_le _ ?_) | (with_reducible refine size_alloc_le ?_) | (with_reducible refine size_set_le ?_) | (with_reducible refine size_drewN_le ?_) | go_size)))) ?_; intro x5
          go_wp2
          go_ret
          exact ⟨rfl, by (repeat' (first | (with_reducible exact Below.refl _ _) | (with_reducible assumption) | (with_reducible refine Below.alloc ?_ ?_ _) | (with_reducible refine Below.drew ?_) | (with_reducible refine below_drewN ?_ _) | (with_reducible refine Below.setCell ?_ ?_ _) | (with_reducible refine below_after ?_ ?_ _) | (with_reducible refine below_set ?_) | (with_reducible refine After.size_le _ ?_) | (with_reducible refine size_alloc_le ?_) | (with_reducible refine size_set_le ?_) | (with_reducible refine size_drewN_le ?_) | go_size))⟩
        · skip
          go_enter Tryd.func12, Tryd.ntmps12
          (go_wp2_with fail); refine calls_after (H1.out _ (by (repeat' (first | (with_reducible exact Below.refl _ _) | (with_reducible assumption) | (with_reducible refine Below.alloc ?_ ?_ _) | (with_reducible refine Below.drew ?_) | (with_reducible refine below_drewN ?_ _) | (with_reducible refine Below.setCell ?_ ?_ _) | (with_reducible refine below_after ?_ ?_ _) | (with_reducible refine below_set ?_) | (with_reducible refine After.size_le _ ?_) | (with_reducible refine size_alloc_le ?_) | (with_reducible refine size_set_le ?_) | (with_reducible refine size_drewN_le ?_) | go_size)))) ?_; intro x1; have hz_x1 := x1.out.size; (try simp only [World.size_alloc] at hz_x1); (try simp only [World.size_setCell] at hz_x1); (try simp only [World.size_alloc] at hz_x1); have k0_x1 : w.heap.size < x1.w.heap.size := (by omega); have j0_x1 : w.heap.size < x1.w.heap.size + 1 := (by omega)
          (go_wp2_with fail); refine calls_after2 (H2.out _ (by (repeat' (first | (with_reducible exact Below.refl _ _) | (with_reducible assumption) | (with_reducible refine Below.alloc ?_ ?_ _) | (with_reducible refine Below.drew ?_) | (with_reducible refine below_drewN ?_ _) | (with_reducible refine Below.setCell ?_ ?_ _) | (with_reducible refine below_after ?_ ?_ _) | (with_reducible refine below_set ?_) | (with_reducible refine After.size_le _ ?_) | (with_reducible refine size_alloc_le ?_) | (with_reducible refine size_set_le ?_) | (with_reducible refine size_drewN_le ?_) | go_size)))) ?_; intro x2; have hz_x2 := x2.out.size; (try simp only [World.size_alloc] at hz_x2); (try simp only [World.size_setCell] at hz_x2); (try simp only [World.size_alloc] at hz_x2); have k0_x2 : w.heap.size < x2.w.heap.size := (by omega); have j0_x2 : w.heap.size < x2.w.heap.size + 1 := (by omega)
          go_wp2_with fail
          refine (H3.out _ (by (repeat' (first | (with_reducible exact Below.refl _ _) | (with_reducible assumption) | (with_reducible refine Below.alloc ?_ ?_ _) | (with_reducible refine Below.drew ?_) | (with_reducible refine below_drewN ?_ _) | (with_reducible refine Below.setCell ?_ ?_ _) | (with_reducible refine below_after ?_ ?_ _) | (with_reducible refine below_set ?_) | (with_reducible refine After.size_le _ ?_) | (with_reducible refine size_alloc_le ?_) | (with_reducible refine size_set_le ?_) | (with_reducible refine size_drewN_le ?_) | go_size)))).mono ?_
          rintro e w1 ⟨v1, rfl, ⟨a1, c1, rfl, _⟩, b1⟩
          obtain ⟨x3, rfl⟩ := after_ofB (x2.out.trans (b1.mono x2.out.size))
          clear b1
          have hz_x3 := x3.out.size; (try simp only [World.size_alloc] at hz_x3); (try simp only [World.size_setCell] at hz_x3); (try simp only [World.size_alloc] at hz_x3); have k0_x3 : w.heap.size < x3.w.heap.size := (by omega); have j0_x3 : w.heap.size < x3.w.heap.size + 1 := (by omega)
          (go_wp2_with fail); refine calls_after2 (H4.out _ (by (repeat' (first | (with_reducible exact Below.refl _ _) | (with_reducible assumption) | (with_reducible refine Below.alloc ?_ ?_ _) | (with_reducible refine Below.drew ?_) | (with_reducible refine below_drewN ?_ _) | (with_reducible refine Below.setCell ?_ ?_ _) | (with_reducible refine below_after ?_ ?_ _) | (with_reducible refine below_set ?_) | (with_reducible refine After.size_le _ ?_) | (with_reducible refine size_alloc_le ?_) | (with_reducible refine size_set_le ?_) | (with_reducible refine size_drewN_le ?_) | go_size)))) ?_; intro x4
          (go_wp2_with fail); refine calls_after2 (H9.out _ (by (repeat' (first | (with_reducible exact Below.refl _ _) | (with_reducible assumption) | (with_reducible refine Below.alloc ?_ ?_ _) | (with_reducible refine Below.drew ?_) | (with_reducible refine below_drewN ?_ _) | (with_reducible refine Below.setCell ?_ ?_ _) | (with_reducible refine below_after ?_ ?_ _) | (with_reducible refine below_set ?_) | (with_reducible refine After.size_le _ ?_) | (with_reducible refine size_alloc_le ?_) | (with_reducible refine size_set_le ?_) | (with_reducible refine size_drewN_le ?_) | go_size)))) ?_; intro x5
          go_wp2
          go_ret
          exact ⟨rfl, by (repeat' (first | (with_reducible exact Below.refl _ _) | (with_reducible assumption) | (with_reducible refine Below.alloc ?_ ?_ _) | (with_reducible refine Below.drew ?_) | (with_reducible refine below_drewN ?_ _) | (with_reducible refine Below.setCell ?_ ?_ _) | (with_reducible refine below_after ?_ ?_ _) | (with_reducible refine below_set ?_) | (with_reducible refine After.size_le _ ?_) | (with_reducible refine size_alloc_le ?_) | (with_reducible refine size_set_le ?_) | (with_reducible refine size_drewN_le ?_) | go_size))⟩
    · clear hq
      rcases hzz with rfl | ⟨rfl, rfl⟩
      · skip
        go_enter Tryd.func12, Tryd.ntmps12
        (go_wp2_with fail); refine calls_after (H1.out _ (by (repeat' (first | (with_reducible exact Below.refl _ _) | (with_reducible assumption) | (with_reducible refine Below.alloc ?_ ?_ _) | (with_reducible refine Below.drew ?_) | (with_reducible refine below_drewN ?_ _) | (with_reducible refine Below.setCell ?_ ?_ _) | (with_reducible refine below_after ?_ ?_ _) | (with_reducible refine below_set ?_) | (with_reducible refine After.size_le _ ?_) | (with_reducible refine size_alloc_le ?_) | (with_reducible refine size_set_le ?_) | (with_reducible refine size_drewN_le ?_) | go_size)))) ?_; intro x1; have hz_x1 := x1.out.size; (try simp only [World.size_alloc] at hz_x1); (try simp only [World.size_setCell] at hz_x1); (try simp only [World.size_alloc] at hz_x1); have k0_x1 : w.heap.size < x1.w.heap.size := (by omega); have j0_x1 : w.heap.size < x1.w.heap.size + 1 := (by omega)
        (go_wp2_with fail); refine calls_after2 (H2.out _ (by (repeat' (first | (with_reducible exact Below.refl _ _) | (with_reducible assumption) | (with_reducible refine Below.alloc ?_ ?_ _) | (with_reducible refine Below.drew ?_) | (with_reducible refine below_drewN ?_ _) | (with_reducible refine Below.setCell ?_ ?_ _) | (with_reducible refine below_after ?_ ?_ _) | (with_reducible refine below_set ?_) | (with_reducible refine After.size_le _ ?_) | (with_reducible refine size_alloc_le ?_) | (with_reducible refine size_set_le ?_) | (with_reducible refine size_drewN_le ?_) | go_size)))) ?_; intro x2; have hz_x2 := x2.out.size; (try simp only [World.size_alloc] at hz_x2); (try simp only [World.size_setCell] at hz_x2); (try simp only [World.size_alloc] at hz_x2); have k0_x2 : w.heap.size < x2.w.heap.size := (by omega); have j0_x2 : w.heap.size < x2.w.heap.size + 1 := (by omega)
        go_wp2_with fail
        refine (H3.out _ (by (repeat' (first | (with_reducible exact Below.refl _ _) | (with_reducible assumption) | (with_reducible refine Below.alloc ?_ ?_ _) | (with_reducible refine Below.drew ?_) | (with_reducible refine below_drewN ?_ _) | (with_reducible refine Below.setCell ?_ ?_ _) | (with_reducible refine below_after ?_ ?_ _) | (with_reducible refine below_set ?_) | (with_reducible refine After.size_le _ ?_) | (with_reducible refine size_alloc_le ?_) | (with_reducible refine size_set_le ?_) | (with_reducible refine size_drewN_le ?_) | go_size)))).mono ?_
        rintro e w1 ⟨v1, rfl, ⟨a1, c1, rfl, _⟩, b1⟩
        obtain ⟨x3, rfl⟩ := after_ofB (x2.out.trans (b1.mono x2.out.size))
        clear b1
        have hz_x3 := x3.out.size; (try simp only [World.size_alloc] at hz_x3); (try simp only [World.size_setCell] at hz_x3); (try simp only [World.size_alloc] at hz_x3); have k0_x3 : w.heap.size < x3.w.heap.size := (by omega); have j0_x3 : w.heap.size < x3.w.heap.size + 1 := (by omega)
        (go_wp2_with fail); refine calls_after2 (H4.out _ (by (repeat' (first | (with_reducible exact Below.refl _ _) | (with_reducible assumption) | (with_reducible refine Below.alloc ?_ ?_ _) | (with_reducible refine Below.drew ?_) | (with_reducible refine below_drewN ?_ _) | (with_reducible refine Below.setCell ?_ ?_ _) | (with_reducible refine below_after ?_ ?_ _) | (with_reducible refine below_set ?_) | (with_reducible refine After.size_le _ ?_) | (with_reducible refine size_alloc_le ?_) | (with_reducible refine size_set_le ?_) | (with_reducible refine size_drewN_le ?_) | go_size)))) ?_; intro x4
        (go_wp2_with fail); refine calls_after2 (H9.out _ (by (repeat' (first | (with_reducible exact Below.refl _ _) | (with_reducible assumption) | (with_reducible refine Below.alloc ?_ ?_ _) | (with_reducible refine Below.drew ?_) | (with_reducible refine below_drewN ?_ _) | (with_reducible refine Below.setCell ?_ ?_ _) | (with_reducible refine below_after ?_ ?_ _) | (with_reducible refine below_set ?_) | (with_reducible refine After.size_le _ ?_) | (with_reducible refine size_alloc_le ?_) | (with_reducible refine size_set_le ?_) | (with_reducible refine size_drewN_le ?_) | go_size)))) ?_; intro x5
        go_wp2
        go_ret
        exact ⟨rfl, by (repeat' (first | (with_reducible exact Below.refl _ _) | (with_reducible assumption) | (with_reducible refine Below.alloc ?_ ?_ _) | (with_reducible refine Below.drew ?_) | (with_reducible refine below_drewN ?_ _) | (with_reducible refine Below.setCell ?_ ?_ _) | (with_reducible refine below_after ?_ ?_ _) | (with_reducible refine below_set ?_) | (with_reducible refine After.size_le _ ?_) | (with_reducible refine size_alloc_le ?_) | (with_reducible refine size_set_le ?_) | (with_reducible refine size_drewN_le ?_) | go_size))⟩
      · skip
        go_enter Tryd.func12, Tryd.ntmps12
        (go_wp2_with fail); refine calls_after (H1.out _ (by (repeat' (first | (with_reducible exact Below.refl _ _) | (with_reducible assumption) | (with_reducible refine Below.alloc ?_ ?_ _) | (with_reducible refine Below.drew ?_) | (with_reducible refine below_drewN ?_ _) | (with_reducible refine Below.setCell ?_ ?_ _) | (with_reducible refine below_after ?_ ?_ _) | (with_reducible refine below_set ?_) | (with_reducible refine After.size_le _ ?_) | (with_reducible refine size_alloc_le ?_) | (with_reducible refine size_set_le ?_) | (with_reducible refine size_drewN_le ?_) | go_size)))) ?_; intro x1; have hz_x1 := x1.out.size; (try simp only [World.size_alloc] at hz_x1); (try simp only [World.size_setCell] at hz_x1); (try simp only [World.size_alloc] at hz_x1); have k0_x1 : w.heap.size < x1.w.heap.size := (by omega); have j0_x1 : w.heap.size < x1.w.heap.size + 1 := (by omega)
        (go_wp2_with fail); refine calls_after2 (H2.out _ (by (repeat' (first | (with_reducible exact Below.refl _ _) | (with_reducible assumption) | (with_reducible refine Below.alloc ?_ ?_ _) | (with_reducible refine Below.drew ?_) | (with_reducible refine below_drewN ?_ _) | (with_reducible refine Below.setCell ?_ ?_ _) | (with_reducible refine below_after ?_ ?_ _) | (with_reducible refine below_set ?_) | (with_reducible refine After.size_le _ ?_) | (with_reducible refine size_alloc_le ?_) | (with_reducible refine size_set_le ?_) | (with_reducible refine size_drewN_le ?_) | go_size)))) ?_; intro x2; have hz_x2 := x2.out.size; (try simp only [World.size_alloc] at hz_x2); (try simp only [World.size_setCell] at hz_x2); (try simp only [World.size_alloc] at hz_x2); have k0_x2 : w.heap.size < x2.w.heap.size := (by omega); have j0_x2 : w.heap.size < x2.w.heap.size + 1 := (by omega)
        go_wp2_with fail
        refine (H3.out _ (by (repeat' (first | (with_reducible exact Below.refl _ _) | (with_reducible assumption) | (with_reducible refine Below.alloc ?_ ?_ _) | (with_reducible refine Below.drew ?_) | (with_reducible refine below_drewN ?_ _) | (with_reducible refine Below.setCell ?_ ?_ _) | (with_reducible refine below_after ?_ ?_ _) | (with_reducible refine below_set ?_) | (with_reducible refine After.size_le _ ?_) | (with_reducible refine size_alloc_le ?_) | (with_reducible refine size_set_le ?_) | (with_reducible refine size_drewN_le ?_) | go_size)))).mono ?_
        rintro e w1 ⟨v1, rfl, ⟨a1, c1, rfl, _⟩, b1⟩
        obtain ⟨x3, rfl⟩ := after_ofB (x2.out.trans (b1.mono x2.out.size))
        clear b1
        have hz_x3 := x3.out.size; (try simp only [World.size_alloc] at hz_x3); (try simp only [World.size_setCell] at hz_x3); (try simp only [World.size_alloc] at hz_x3); have k0_x3 : w.heap.size < x3.w.heap.size := (by omega); have j0_x3 : w.heap.size < x3.w.heap.size + 1 := (by omega)
        (go_wp2_with fail); refine calls_after2 (H4.out _ (by (repeat' (first | (with_reducible exact Below.refl _ _) | (with_reducible assumption) | (with_reducible refine Below.alloc ?_ ?_ _) | (with_reducible refine Below.drew ?_) | (with_reducible refine below_drewN ?_ _) | (with_reducible refine Below.setCell ?_ ?_ _) | (with_reducible refine below_after ?_ ?_ _) | (with_reducible refine below_set ?_) | (with_reducible refine After.size_le _ ?_) | (with_reducible refine size_alloc_le ?_) | (with_reducible refine size_set_le ?_) | (with_reducible refine size_drewN_le ?_) | go_size)))) ?_; intro x4
        (go_wp2_with fail); refine calls_after2 (H9.out _ (by (repeat' (first | (with_reducible exact Below.refl _ _) | (with_reducible assumption) | (with_reducible refine Below.alloc ?_ ?_ _) | (with_reducible refine Below.drew ?_) | (with_reducible refine below_drewN ?_ _) | (with_reducible refine Below.setCell ?_ ?_ _) | (with_reducible refine below_after ?_ ?_ _) | (with_reducible refine below_set ?_) | (with_reducible refine After.size_le _ ?_) | (with_reducible refine size_alloc_le ?_) | (with_reducible refine size_set_le ?_) | (with_reducible refine size_drewN_le ?_) | go_size)))) ?_; intro x5
        go_wp2
        go_ret
        exact ⟨rfl, by (repeat' (first | (with_reducible exact Below.refl _ _) | (with_reducible assumption) | (with_reducible refine Below.alloc ?_ ?_ _) | (with_reducible refine Below.drew ?_) | (with_reducible refine below_drewN ?_ _) | (with_reducible refine Below.setCell ?_ ?_ _) | (with_reducible refine below_after ?_ ?_ _) | (with_reducible refine below_set ?_) | (with_reducible refine After.size_le _ ?_) | (with_reducible refine size_alloc_le ?_) | (with_reducible refine size_set_le ?_) | (with_reducible refine size_drewN_le ?_) | go_size))⟩
  · obtain ⟨a, cap, rfl, _⟩ := h
    exact stackHolds_long a n cap i p s w hT (by omega)
end Go.Proofs.YtnlcfejjehhedaaDoor
