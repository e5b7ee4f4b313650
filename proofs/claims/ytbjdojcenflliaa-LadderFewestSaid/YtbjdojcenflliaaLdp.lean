/- wall.valid; the route for dogs. -/
import Derived.Test.YtbjdojcenflliaaLdj
import Derived.Deep.RegionHeld3
import Derived.Deep.RegionLaw
namespace Go.Proofs.Ytbjdojcenflliaa
open Go.RowKit
attribute [local go_sem] After.cell After.frozen After.lt After.le After.ne After.ne' After.set_eq After.size_set After.lt_add

/-- The cells of places. -/
def plc (hg : Nat → Int) (sd : Nat → Bool) : Nat → List Value
  | 0 => []
  | k + 1 => plc hg sd k ++ [.int .i64 (hg k), .bool (sd k)]
theorem plc_len (hg : Nat → Int) (sd : Nat → Bool) : ∀ k, (plc hg sd k).length = k * 2
  | 0 => rfl
  | k + 1 => by unfold plc; rw [List.length_append, plc_len hg sd k]; simp; omega
theorem plc_get (hg : Nat → Int) (sd : Nat → Bool) {k i : Nat} (hi : i < k) : (plc hg sd k)[i * 2]? = some (.int .i64 (hg i)) ∧ (plc hg sd k)[i * 2 + 1]? = some (.bool (sd i)) := by
  induction k with
  | zero => omega
  | succ k ih =>
    unfold plc
    by_cases e : i < k
    · rw [List.getElem?_append_left (by rw [plc_len]; omega), List.getElem?_append_left (by rw [plc_len]; omega)]
      exact ih e
    · obtain rfl : i = k := by omega
      rw [List.getElem?_append_right (by rw [plc_len]; omega), List.getElem?_append_right (by rw [plc_len]; omega), plc_len]
      simp
theorem plInfo : (Try.prog.info? 79).map (fun i => (i.zero, i.size, i.bytes)) = some (some (.agg #[.int .i64 0, .bool false]), 2, 16) := by kernel_rfl
theorem jt_row {W : World} {B n : Nat} {v : Value} {hg : Nat → Int} {sd : Nat → Bool} (h : W.ownsRow B 79 2 v n (plc hg sd n)) : ∃ a cap, v = .slice a n cap ∧ JtAt W a n hg sd ∧ ∀ b off, a = some ⟨b, off, none⟩ → B ≤ b := by
  rcases Nat.eq_zero_or_pos n with rfl | h0
  · rcases Go.Joins.ownsRow_forms h with ⟨rfl, _⟩ | ⟨g, c, rfl⟩
    · exact ⟨_, _, rfl, fun k hk => absurd hk (by omega), fun b off e => by cases e⟩
    · exact ⟨_, _, rfl, fun k hk => absurd hk (by omega), fun b off e => by cases e; exact (h.lt g rfl).1⟩
  · obtain ⟨g, cap, rfl⟩ := Go.Joins.ownsRow_form h h0
    have hl := h.lt g rfl
    refine ⟨_, _, rfl, fun k hk => ?_, fun b off e => by cases e; exact hl.1⟩
    obtain ⟨c0, c1⟩ := plc_get hg sd hk
    refine ⟨g, 0, rfl, hl.2, ?_, ?_⟩
    · rw [Nat.zero_add, h.cellAt _ (by omega)]; exact c0
    · rw [Nat.zero_add, h.cellAt _ (by omega)]; exact c1
theorem ownsL_fr {B : Nat} {e : TypeId} {k : Nat} {v : Value} {n : Nat} {xs : List Value} {M : Nat → Prop} {w w' : World} (h : w.ownsRow B e k v n xs) (hf : Fr M w w') (hM : ∀ g, B ≤ g → ¬ M g) : w'.ownsRow B e k v n xs := by
  obtain ⟨h1, h2 | ⟨g, cap, cur, a1, a2, a3, a4⟩⟩ := h
  · exact ⟨h1, .inl h2⟩
  · exact ⟨h1, .inr ⟨g, cap, cur, a1, a2, (hf.same g (Array.getElem?_eq_some_iff.1 a3).1 (hM g a2)).trans a3, a4⟩⟩
/-- A route's box. -/
structure RtB (W : World) (B : Nat) (v : Value) (fi st la : Int) : Prop where
  lt : B < W.heap.size
  g0 : W.cell? ⟨B, 0, none⟩ = some v
  g1 : W.cell? ⟨B, 1, none⟩ = some (.int .i64 fi)
  g2 : W.cell? ⟨B, 2, none⟩ = some (.int .i64 st)
  g3 : W.cell? ⟨B, 3, none⟩ = some (.int .i64 la)
  free : ∀ o, W.frozen? ⟨B, o, none⟩ = false
theorem RtB.fr {M : Nat → Prop} {W W' : World} {B : Nat} {v : Value} {fi st la : Int} (h : RtB W B v fi st la) (hf : Fr M W W') (hM : ¬ M B) : RtB W' B v fi st la :=
  ⟨Nat.lt_of_lt_of_le h.lt hf.size, hf.cell (p := ⟨B, 0, none⟩) hM h.g0, hf.cell (p := ⟨B, 1, none⟩) hM h.g1, hf.cell (p := ⟨B, 2, none⟩) hM h.g2, hf.cell (p := ⟨B, 3, none⟩) hM h.g3, fun o => (hf.frozen (p := ⟨B, o, none⟩) hM h.lt).trans (h.free o)⟩
theorem RtB.on {W W' : World} {B : Nat} {v : Value} {fi st la : Int} (h : RtB W B v fi st la) (hb : Below W.heap.size W W') : RtB W' B v fi st la := h.fr ((Fr.refl (M := fun _ => False) W).call hb) id
theorem rtB_new (W : World) (T : TypeId) (v : Value) (fi st la : Int) : RtB (W.alloc (.cells #[v, .int .i64 fi, .int .i64 st, .int .i64 la] T)) W.heap.size v fi st la := ⟨by simp, by simp [go_sem], by simp [go_sem], by simp [go_sem], by simp [go_sem], fun o => by simp [go_sem]⟩
theorem RtB.put0 {W : World} {B : Nat} {v : Value} {fi st la : Int} (h : RtB W B v fi st la) (u : Value) : RtB (W.setCell ⟨B, 0, none⟩ u) B u fi st la :=
  ⟨by simpa using h.lt, World.cell?_setCell_same _ _ _ h.g0, (World.cell?_setCell_other _ _ _ _ (by simp)).trans h.g1, (World.cell?_setCell_other _ _ _ _ (by simp)).trans h.g2, (World.cell?_setCell_other _ _ _ _ (by simp)).trans h.g3, fun o => by simp [h.free o]⟩
theorem RtB.put {W : World} {B : Nat} {v : Value} {fi st la : Int} (h : RtB W B v fi st la) (u : Value) (a b c : Int) : RtB ((((W.setCell ⟨B, 0, none⟩ u).setCell ⟨B, 1, none⟩ (.int .i64 a)).setCell ⟨B, 2, none⟩ (.int .i64 b)).setCell ⟨B, 3, none⟩ (.int .i64 c)) B u a b c := by
  have o : ∀ (X : World) (p q : Nat) (x : Value), p ≠ q → (X.setCell ⟨B, p, none⟩ x).cell? ⟨B, q, none⟩ = X.cell? ⟨B, q, none⟩ := fun X p q x hpq => World.cell?_setCell_other _ _ _ _ (fun e => hpq (by cases e; rfl))
  refine ⟨by simpa using h.lt, ?_, ?_, ?_, ?_, fun o => by simp [h.free o]⟩
  · rw [o _ _ _ _ (by omega), o _ _ _ _ (by omega), o _ _ _ _ (by omega)]; exact World.cell?_setCell_same _ _ _ h.g0
  · rw [o _ _ _ _ (by omega), o _ _ _ _ (by omega)]; exact World.cell?_setCell_same _ _ _ ((o _ _ _ _ (by omega)).trans h.g1)
  · rw [o _ _ _ _ (by omega)]; exact World.cell?_setCell_same _ _ _ ((o _ _ _ _ (by omega)).trans ((o _ _ _ _ (by omega)).trans h.g2))
  · exact World.cell?_setCell_same _ _ _ ((o _ _ _ _ (by omega)).trans ((o _ _ _ _ (by omega)).trans ((o _ _ _ _ (by omega)).trans h.g3)))
/-- What forDogs answers. -/
def RtR (W : World) (B n : Nat) (hg : Nat → Int) (sd : Nat → Bool) (fi st la : Int) (e : Ending) : Prop := ∃ v, e = .returned (.agg #[v, .int .i64 fi, .int .i64 st, .int .i64 la]) ∧ W.ownsRow B 79 2 v n (plc hg sd n)
section
variable (fi ga tp le lp sg : Int) (a : Option Addr) (n cap : Nat) (hg : Nat → Int) (sd : Nat → Bool) (w : World) (hA : JtAt w a n hg sd) (hn : n ≤ 9223372036854775807)
include hA hn
set_option maxRecDepth 100000 in
set_option maxHeartbeats 1000000 in
theorem wvalid_any : Calls Try.prog 49 #[.agg #[.int .i64 fi, .int .i64 ga, .int .i64 tp, .int .i64 le, .int .i64 lp, .int .i64 sg, .slice a n cap]] w fun e w' => e = .returned (.bool (decide (VcP fi ga tp le lp sg) && decide (VjP n hg))) ∧ Below w.heap.size w w' := by
  have HC := Lib.hid (fun W => validClimb_any fi ga tp le lp sg W)
  have HJ := Lib.hid (fun W (hW : Below w.heap.size w W) => validJoints_any a n cap hg sd W (hA.on hW) hn)
  clear hA
  generalize decide (VcP fi ga tp le lp sg) = vc at *
  generalize decide (VjP n hg) = vj at *
  go_enter Try.func49, Try.ntmps49
  go_wp2_with fail
  refine (HC.out _).mono ?_
  rintro e w2 ⟨rfl, hb2⟩
  have HB2 := Lib.hid (Below.trans (show Below w.heap.size w (w.alloc (.cells #[.int .i64 fi, .int .i64 ga, .int .i64 tp, .int .i64 le, .int .i64 lp, .int .i64 sg, .slice a n cap] 57)) by (repeat' (first | (with_reducible exact Below.refl _ _) | (with_reducible assumption) | (with_reducible refine Below.alloc ?_ ?_ _) | (with_reducible refine Below.drew ?_) | (with_reducible refine below_drewN ?_ _) | (with_reducible refine Below.setCell ?_ ?_ _) | (with_reducible refine below_after ?_ ?_ _) | (with_reducible refine below_set ?_) | (with_reducible refine After.size_le _ ?_) | (with_reducible refine size_alloc_le ?_) | (with_reducible refine size_set_le ?_) | (with_reducible refine size_drewN_le ?_) | go_size))) (hb2.mono (by simp)))
  have e6 : w2.cell? ⟨w.heap.size, 6, none⟩ = some (.slice a n cap) := (hb2.cell (p := ⟨w.heap.size, 6, none⟩) (by simp)).trans (by simp [go_sem])
  clear hb2
  cases vc
  · go_wp2
    go_ret
    exact ⟨rfl, HB2.out⟩
  · go_wp2_with (go_at_call 15; refine (HJ.out _ HB2.out).mono ?_; rintro e w3 ⟨rfl, hb3⟩; have HB3 := Lib.hid (HB2.out.trans (hb3.mono HB2.out.size)); clear hb3)
    go_ret
    exact ⟨rfl, HB3.out⟩
set_option maxRecDepth 100000 in
set_option maxHeartbeats 2000000 in
theorem forDogs_any (hn2 : n ≤ 1000) (hga : 1 ≤ ga ∧ ga ≤ 200000) (htp : 1 ≤ tp ∧ tp ≤ 200000) :
    Calls Try.prog 50 #[.agg #[.int .i64 fi, .int .i64 ga, .int .i64 tp, .int .i64 le, .int .i64 lp, .int .i64 sg, .slice a n cap]] w fun e w' => RtR w' w.heap.size n hg sd fi ga (tp - ga) e ∧ Below w.heap.size w w' := by
  obtain ⟨i0, hi, hz0, hz1, hz2⟩ := info_parts plInfo
  obtain ⟨g0, g1⟩ := hga
  obtain ⟨t0, t1⟩ := htp
  have hnI : (n : Int) ≤ 1000 := by omega
  have HA := Lib.hid hA
  clear hA
  go_enter Try.func50, Try.ntmps50
  go_wp2_with fail
  obtain ⟨W0, hW0⟩ : ∃ W0, (((w.alloc (.cells #[.int .i64 fi, .int .i64 ga, .int .i64 tp, .int .i64 le, .int .i64 lp, .int .i64 sg, .slice a n cap] 57)).alloc (.cells #[.slice none 0 0, .int .i64 0, .int .i64 0, .int .i64 0] 60)).alloc (.cells #[.slice none 0 0, .int .i64 fi, .int .i64 ga, .int .i64 (tp - ga)] 60)) = W0 := ⟨_, rfl⟩
  have b0 : Below w.heap.size w W0 := by rw [← hW0]; (repeat' (first | (with_reducible exact Below.refl _ _) | (with_reducible assumption) | (with_reducible refine Below.alloc ?_ ?_ _) | (with_reducible refine Below.drew ?_) | (with_reducible refine below_drewN ?_ _) | (with_reducible refine Below.setCell ?_ ?_ _) | (with_reducible refine below_after ?_ ?_ _) | (with_reducible refine below_set ?_) | (with_reducible refine After.size_le _ ?_) | (with_reducible refine size_alloc_le ?_) | (with_reducible refine size_set_le ?_) | (with_reducible refine size_drewN_le ?_) | go_size))
  have r1 : RtB W0 (w.heap.size + 1) (.slice none 0 0) 0 0 0 := by
    rw [← hW0]
    have := (rtB_new (w.alloc (.cells #[.int .i64 fi, .int .i64 ga, .int .i64 tp, .int .i64 le, .int .i64 lp, .int .i64 sg, .slice a n cap] 57)) 60 (.slice none 0 0) 0 0 0).on ((Below.refl _ _).alloc (Nat.le_refl _) (.cells #[.slice none 0 0, .int .i64 fi, .int .i64 ga, .int .i64 (tp - ga)] 60))
    simpa using this
  have r2 : RtB W0 (w.heap.size + 1 + 1) (.slice none 0 0) fi ga (tp - ga) := by
    rw [← hW0]
    have := rtB_new ((w.alloc (.cells #[.int .i64 fi, .int .i64 ga, .int .i64 tp, .int .i64 le, .int .i64 lp, .int .i64 sg, .slice a n cap] 57)).alloc (.cells #[.slice none 0 0, .int .i64 0, .int .i64 0, .int .i64 0] 60)) 60 (.slice none 0 0) fi ga (tp - ga)
    simpa using this
  have s0 : W0.heap.size = w.heap.size + 3 := by rw [← hW0]; simp
  rw [hW0]
  clear hW0
  have HI0 : Hid (Below w.heap.size w W0 ∧ RtB W0 (w.heap.size + 1) (.slice none 0 0) 0 0 0 ∧ RtB W0 (w.heap.size + 1 + 1) (.slice none 0 0) fi ga (tp - ga)) := Lib.hid ⟨b0, r1, r2⟩
  clear b0 r1 r2
  go_loopw [23] (fun i W => ∃ k : Nat, k ≤ n ∧ i = .int .i64 k ∧ w.heap.size + 3 ≤ W.heap.size ∧ Hid (∃ v, Below w.heap.size w W ∧ RtB W (w.heap.size + 1) (.slice none 0 0) 0 0 0 ∧ RtB W (w.heap.size + 1 + 1) v fi ga (tp - ga) ∧ W.ownsRow (w.heap.size + 3) 79 2 v k (plc hg sd k))) (fun i _ => n - (intOf i).toNat)
  case atStart => exact ⟨0, Nat.zero_le _, rfl, by omega, Lib.hid ⟨_, HI0.out.1, HI0.out.2.1, HI0.out.2.2, World.ownsRow_nil _ _ _ _⟩⟩
  case round =>
    clear HI0
    obtain ⟨k, hk, rfl, hsz, HI⟩ := hrel
    obtain ⟨v, hb, h1, h2, ho⟩ := HI.out
    by_cases hlt : k < n
    · have hlti : (k : Int) < (n : Int) := by omega
      obtain ⟨b, off, rfl, hbb, c0, c1⟩ := (HA.out.on hb) k hlt
      have HSn : Hid (plc hg sd (k + 1) = plc hg sd k ++ [.int .i64 (hg k), .bool (sd k)]) := Lib.hid rfl
      generalize hg k = hk' at *
      generalize sd k = sk at *
      obtain ⟨Z, hZ⟩ : ∃ Z, wr.alloc (.cells #[.int .i64 hk', .bool sk] 53) = Z := ⟨_, rfl⟩
      have FZ : Fr (fun _ => False) wr Z := by rw [← hZ]; exact (Fr.refl wr).alloc _
      have kx0 : Z.cell? ⟨wr.heap.size, 0, none⟩ = some (.int .i64 hk') := by rw [← hZ]; simp [go_sem]
      have kx1 : Z.cell? ⟨wr.heap.size, 1, none⟩ = some (.bool sk) := by rw [← hZ]; simp [go_sem]
      have z2 := (h2.fr FZ id)
      have HZ1 := Lib.hid (h1.fr FZ id)
      have HZ2 := Lib.hid z2
      have HOZ := Lib.hid (ownsL_fr ho FZ (fun _ _ => id))
      have HBZ := Lib.hid (hb.trans (FZ.below hb.size (fun _ _ => id)))
      have k0 := z2.g0
      have kf := z2.free 0
      have hz3 : w.heap.size + 3 ≤ Z.heap.size := by have := FZ.size; omega
      clear h1 h2 ho hb z2 FZ HI
      go_wp2_with (at_builtin; go_loud (refine wpList_append_own _ rfl _ _ 58 rfl (w.heap.size + 3) 79 i0 (.agg #[.int .i64 0, .bool false]) 2 16 Try.underlying58 hi hz0 hz1 hz2 rfl (by decide) _ _ _ rfl (HOZ.out.alloc _) ⟨Z.heap.size, 0, none⟩ 1 1 [.int .i64 hk', .bool sk] rfl rfl (World.news_of_block (cs := #[.int .i64 hk', .bool sk]) (t := 79) (fr := (0, 0)) (heap_alloc_new Z _)) (by simp [Value.oneCell']) (by unfold maxLen; omega) (by omega) (show w.heap.size + 3 ≤ (Z.alloc _).heap.size by rw [World.size_alloc]; omega) ?_; intro v' w4 hown' hgrow _; obtain ⟨g', cap', rfl⟩ := Go.Joins.ownsRow_form hown' (by omega); have F4 : Fr (fun g => w.heap.size + 3 ≤ g) Z w4 := ((Fr.refl Z).alloc _).grown hgrow (fun k e => .inl (HOZ.out.lt k e).1); have z4 := HZ2.out.fr F4 (show ¬ (w.heap.size + 3 ≤ w.heap.size + 1 + 1) by omega); have m0 := z4.g0; have mf := z4.free 0; have HX : Hid (Below w.heap.size w (w4.setCell ⟨w.heap.size + 1 + 1, 0, none⟩ (.slice (some ⟨g', 0, none⟩) (k + 1) cap')) ∧ RtB (w4.setCell ⟨w.heap.size + 1 + 1, 0, none⟩ (.slice (some ⟨g', 0, none⟩) (k + 1) cap')) (w.heap.size + 1) (.slice none 0 0) 0 0 0 ∧ RtB (w4.setCell ⟨w.heap.size + 1 + 1, 0, none⟩ (.slice (some ⟨g', 0, none⟩) (k + 1) cap')) (w.heap.size + 1 + 1) (.slice (some ⟨g', 0, none⟩) (k + 1) cap') fi ga (tp - ga) ∧ (w4.setCell ⟨w.heap.size + 1 + 1, 0, none⟩ (.slice (some ⟨g', 0, none⟩) (k + 1) cap')).ownsRow (w.heap.size + 3) 79 2 (.slice (some ⟨g', 0, none⟩) (k + 1) cap') (k + 1) (plc hg sd (k + 1))) := Lib.hid ⟨(HBZ.out.trans (F4.below HBZ.out.size (fun i h => show ¬ (w.heap.size + 3 ≤ i) by omega))).setCell (p := ⟨w.heap.size + 1 + 1, 0, none⟩) (show w.heap.size ≤ w.heap.size + 1 + 1 by omega) _, (HZ1.out.fr F4 (show ¬ (w.heap.size + 3 ≤ w.heap.size + 1) by omega)).fr ((Fr.refl (M := fun j => j = w.heap.size + 1 + 1) w4).setCell (p := ⟨w.heap.size + 1 + 1, 0, none⟩) (.inl rfl) _) (show ¬ (w.heap.size + 1 = w.heap.size + 1 + 1) by omega), z4.put0 _, by rw [HSn.out]; exact ownsL_fr hown' ((Fr.refl (M := fun j => j = w.heap.size + 1 + 1) w4).setCell (p := ⟨w.heap.size + 1 + 1, 0, none⟩) (.inl rfl) _) (fun g hg h => absurd (show g = w.heap.size + 1 + 1 from h) (by omega))⟩; have hs4 : w.heap.size + 3 ≤ w4.heap.size := (by have := F4.size; omega); clear hown' hgrow F4 z4))
      go_roundw
      case rel => exact ⟨k + 1, by omega, by go_num, by simpa using hs4, Lib.hid ⟨_, HX.out⟩⟩
      case measure => simp [intOf]; omega
    · obtain rfl : k = n := by omega
      have HR1 := Lib.hid h1
      have HR2 := Lib.hid h2
      have HOw := Lib.hid ho
      have HBw := Lib.hid hb
      have q0 := h2.g0
      have q1 := h2.g1
      have q2 := h2.g2
      have q3 := h2.g3
      have p0 := h1.g0
      have p1 := h1.g1
      have p2 := h1.g2
      have p3 := h1.g3
      have pf := h1.free
      clear h1 h2 ho hb HI
      obtain ⟨av, cv, rfl, _, _⟩ := jt_row HOw.out
      have HX := Lib.hid (HR1.out.put (.slice av k cv) fi ga (tp - ga))
      have HFx : Hid (Fr (fun j => j = w.heap.size + 1) wr ((((wr.setCell ⟨w.heap.size + 1, 0, none⟩ (.slice av k cv)).setCell ⟨w.heap.size + 1, 1, none⟩ (.int .i64 fi)).setCell ⟨w.heap.size + 1, 2, none⟩ (.int .i64 ga)).setCell ⟨w.heap.size + 1, 3, none⟩ (.int .i64 (tp - ga)))) := Lib.hid (((((Fr.refl (M := fun j => j = w.heap.size + 1) wr).setCell (p := ⟨w.heap.size + 1, 0, none⟩) (.inl rfl) _).setCell (p := ⟨w.heap.size + 1, 1, none⟩) (.inl rfl) _).setCell (p := ⟨w.heap.size + 1, 2, none⟩) (.inl rfl) _).setCell (p := ⟨w.heap.size + 1, 3, none⟩) (.inl rfl) _)
      go_wp2
      have k0 := HX.out.g0
      have k1 := HX.out.g1
      have k2 := HX.out.g2
      have k3 := HX.out.g3
      refine bodyPost_ret (v := .agg #[.slice av k cv, .int .i64 fi, .int .i64 ga, .int .i64 (tp - ga)]) (by simp [results, Try.results50, go_sem, k0, k1, k2, k3]) rfl ⟨⟨_, rfl, ?_⟩, ?_⟩
      · exact Go.Joins.ownsRow_le (ownsL_fr HOw.out HFx.out (fun g hg h => absurd (show g = w.heap.size + 1 from h) (by omega))) (by omega)
      · exact HBw.out.trans (HFx.out.below HBw.out.size (fun i h h' => absurd (show i = w.heap.size + 1 from h') (by omega)))
end
end Go.Proofs.Ytbjdojcenflliaa
