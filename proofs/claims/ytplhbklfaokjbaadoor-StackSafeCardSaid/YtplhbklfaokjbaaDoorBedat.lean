/- The bed of the course with an index. -/
import Derived.Test.YtplhbklfaokjbaaDoorBeds
namespace Go.Proofs.YtplhbklfaokjbaaDoor
open Go.RowKit Go.Shelf
attribute [local go_sem] Oper.semAt_some

/-- What bedAt hands back of a good stack. -/
def bdV (f : Nat → Nat → Int) (n : Nat) (i : Int) : BedV := if 0 ≤ i ∧ i < n then bI f n i.toNat else zbed
def bdE (n : Nat) (i : Int) : Int := if 0 ≤ i ∧ i < n then 0 else 7
theorem zero_cells (W : World) (B : Nat) (hB : W.heap[B]? = some (.cells #[.int .i64 0, .int .i64 0, .int .i64 0, .int .i64 0, .int .i64 0, .int .i64 0, .int .i64 0, .int .i64 0, .int .i64 0, .int .i64 0, .int .i64 0, .int .i64 0] 64 (0, 0))) : BedCells W B zbed := by
  have c : ∀ j, j < 12 → W.cell? ⟨B, j, none⟩ = some (.int .i64 0) := fun j hj => by
    rcases (show j = 0 ∨ j = 1 ∨ j = 2 ∨ j = 3 ∨ j = 4 ∨ j = 5 ∨ j = 6 ∨ j = 7 ∨ j = 8 ∨ j = 9 ∨ j = 10 ∨ j = 11 by omega) with rfl | rfl | rfl | rfl | rfl | rfl | rfl | rfl | rfl | rfl | rfl | rfl
    all_goals exact cell_of_row W B _ _ _ _ hB
  exact ⟨c 0 (by omega), c 1 (by omega), c 2 (by omega), c 3 (by omega), c 4 (by omega), c 5 (by omega), c 6 (by omega), c 7 (by omega), c 8 (by omega), c 9 (by omega), c 10 (by omega), c 11 (by omega), fun o => by simp [World.frozen?, hB]⟩

/-- The call's own boxes behind a call. -/
theorem own_boxes (i : Int) (w w1 : World) (hb : Below ((((w.alloc (.cells #[.int .i64 i] 3)).alloc (.cells #[.int .i64 0, .int .i64 0, .int .i64 0, .int .i64 0, .int .i64 0, .int .i64 0, .int .i64 0, .int .i64 0, .int .i64 0, .int .i64 0, .int .i64 0, .int .i64 0] 64)).alloc (.cells #[.int .i64 0] 24))).heap.size
      (((w.alloc (.cells #[.int .i64 i] 3)).alloc (.cells #[.int .i64 0, .int .i64 0, .int .i64 0, .int .i64 0, .int .i64 0, .int .i64 0, .int .i64 0, .int .i64 0, .int .i64 0, .int .i64 0, .int .i64 0, .int .i64 0] 64)).alloc (.cells #[.int .i64 0] 24)) w1) :
    Below w.heap.size w w1 ∧ w.heap.size + 3 ≤ w1.heap.size ∧ w1.cell? ⟨w.heap.size, 0, none⟩ = some (.int .i64 i) ∧ BedCells w1 (w.heap.size + 1) zbed ∧ w1.cell? ⟨w.heap.size + 1 + 1, 0, none⟩ = some (.int .i64 0) ∧ w1.frozen? ⟨w.heap.size + 1 + 1, 0, none⟩ = false := by
  have hf : Fr (fun _ => False) _ w1 := fr_below hb
  have hs := hb.size
  simp only [World.size_alloc] at hs
  refine ⟨(by (repeat' (first | (with_reducible exact Below.refl _ _) | (with_reducible assumption) | (with_reducible refine Below.alloc ?_ ?_ _) | (with_reducible refine Below.drew ?_) | (with_reducible refine below_drewN ?_ _) | (with_reducible refine Below.setCell ?_ ?_ _) | (with_reducible refine below_after ?_ ?_ _) | (with_reducible refine below_set ?_) | (with_reducible refine After.size_le _ ?_) | (with_reducible refine size_alloc_le ?_) | (with_reducible refine size_set_le ?_) | (with_reducible refine size_drewN_le ?_) | go_size)) : Below w.heap.size w _).trans (hb.mono (by simp; omega)), by omega, hf.cell id (by simp [go_sem]), BedCells.fr (zero_cells _ _ ?_) hf id, hf.cell id (by simp [go_sem]), (hf.frozen (p := ⟨w.heap.size + 1 + 1, 0, none⟩) id (by simp)).trans (by simp [go_sem])⟩
  have := heap_alloc_new (w.alloc (.cells #[.int .i64 i] 3)) (.cells #[.int .i64 0, .int .i64 0, .int .i64 0, .int .i64 0, .int .i64 0, .int .i64 0, .int .i64 0, .int .i64 0, .int .i64 0, .int .i64 0, .int .i64 0, .int .i64 0] 64)
  rw [World.size_alloc] at this
  exact (Below.heap_alloc _ _ _ (by simp)).trans this

/-- The results in their boxes. -/
theorem bed_out {X : World} {B E : Nat} {v : BedV} {e : Int} {t0 t1 t2 t3 t6 t7 t8 t9 t10 t11 t12 t13 t14 t15 t16 t17 t18 t19 : Value} (h : BedCells X B v) (he : X.cell? ⟨E, 0, none⟩ = some (.int .i64 e)) :
    (results Tryd.f58 #[t0, t1, t2, t3, (.pointer (some ⟨B, 0, none⟩)), (.pointer (some ⟨E, 0, none⟩)), t6, t7, t8, t9, t10, t11, t12, t13, t14, t15, t16, t17, t18, t19]).run Tryd.prog X = .ok (.tuple #[v.val, .int .i64 e]) X := by
  obtain ⟨c0, c1, c2, c3, c4, c5, c6, c7, c8, c9, c10, c11, _⟩ := h
  simp [results, Tryd.results58, go_sem, *, BedV.val]

set_option maxRecDepth 100000 in
set_option maxHeartbeats 1000000 in
theorem bedAt_bad (a : Option Addr) (n cap : Nat) (i : Int) (w : World) (hv : CSay w (.slice a n cap) false) :
    Calls Tryd.prog 58 #[.slice a n cap, .int .i64 i] w fun e w' => e = .returned (.tuple #[zbed.val, .int .i64 1]) ∧ Below w.heap.size w w' := by
  have HV : Hid (∀ W, Below w.heap.size w W → _) := hv
  clear hv
  go_enter Tryd.func58, Tryd.ntmps58
  go_wp2_with fail
  refine (HV.out _ (by (repeat' (first | (with_reducible exact Below.refl _ _) | (with_reducible assumption) | (with_reducible refine Below.alloc ?_ ?_ _) | (with_reducible refine Below.drew ?_) | (with_reducible refine below_drewN ?_ _) | (with_reducible refine Below.setCell ?_ ?_ _) | (with_reducible refine below_after ?_ ?_ _) | (with_reducible refine below_set ?_) | (with_reducible refine After.size_le _ ?_) | (with_reducible refine size_alloc_le ?_) | (with_reducible refine size_set_le ?_) | (with_reducible refine size_drewN_le ?_) | go_size)))).mono ?_
  rintro e w1 ⟨rfl, hb⟩
  obtain ⟨q1, q2, q3, q4, q5, q6⟩ := own_boxes i w w1 hb
  have B4 := Lib.hid q4
  obtain ⟨c0, c1, c2, c3, c4, c5, c6, c7, c8, c9, c10, c11, cf⟩ := q4
  simp only [zbed] at c0 c1 c2 c3 c4 c5 c6 c7 c8 c9 c10 c11
  have B1 := Lib.hid q1
  clear hb q1
  go_wp2
  obtain ⟨X, hX⟩ : ∃ X, (setBed w1 (w.heap.size + 1) zbed).setCell ⟨w.heap.size + 1 + 1, 0, none⟩ (.int .i64 1) = X := ⟨_, rfl⟩
  have hx1 : BedCells X (w.heap.size + 1) zbed := by
    rw [← hX]
    exact (setBed_cells B4.out).fr (M := fun i => w.heap.size + 1 + 1 ≤ i) ((Fr.refl _).setCell (p := ⟨w.heap.size + 1 + 1, 0, none⟩) (.inl (by simp)) _) (by omega)
  have hx2 : X.cell? ⟨w.heap.size + 1 + 1, 0, none⟩ = some (.int .i64 1) := by
    rw [← hX]
    exact World.cell?_setCell_same' _ _ _ (by rw [setBed_other (by simp), q5]; rfl)
  have hx3 : Below w.heap.size w X := by
    rw [← hX]
    exact (B1.out.trans ((setBed_fr (M := fun i => w.heap.size ≤ i) (Fr.refl w1) (by omega)).below (by omega) (fun i h => by omega))).setCell (by simp; omega) _
  unfold setBed zbed at hX
  dsimp only at hX
  rw [hX]
  clear hX
  refine bodyPost_ret (bed_out hx1 hx2) rfl ⟨rfl, hx3⟩

theorem new_bed (V : World) (v : BedV) : BedCells (V.alloc (.cells #[.int .i64 v.ix, .int .i64 (v.c 0), .int .i64 (v.c 1), .int .i64 (v.c 2), .int .i64 (v.c 3), .int .i64 (v.c 4), .int .i64 (v.c 5), .int .i64 v.wt, .int .i64 v.ea, .int .i64 v.no, .int .i64 v.fa, .int .i64 v.pu] 64)) V.heap.size v := by
  refine ⟨?_, ?_, ?_, ?_, ?_, ?_, ?_, ?_, ?_, ?_, ?_, ?_, fun o => ?_⟩
  all_goals simp [go_sem]
theorem dn_mem {n k : Nat} (h : k < n) : k ∈ dn n 0 := by
  unfold dn
  exact List.mem_map.2 ⟨n - 1 - k, by simp; omega, by omega⟩
theorem bed_kept {B C : Nat} {A A' : World} {Bb : Nat} {v : BedV} (h : BedCells A Bb v) (hf : Fr (OwnM B C A) A A') (hb : C ≤ Bb) : BedCells A' Bb v := h.fr hf (fun hm => by
  rcases hm.2 with h4 | ⟨o, h4, h5⟩
  · omega
  · obtain ⟨o', h6, h7⟩ := cells_of_cell h.1
    rw [h6] at h4; cases h4; rw [h7] at h5; cases h5)

set_option maxRecDepth 100000 in
set_option maxHeartbeats 2000000 in
theorem bedAt_ok (b off cap n : Nat) (f : Nat → Nat → Int) (i : Int) (w : World) (hb : b < w.heap.size) (hc : CrCells w b off n f) (hG : GoodC n f) (hv : CSay w (.slice (some ⟨b, off, none⟩) n cap) true) :
    Calls Tryd.prog 58 #[.slice (some ⟨b, off, none⟩) n cap, .int .i64 i] w fun e w' => e = .returned (.tuple #[(bdV f n i).val, .int .i64 (bdE n i)]) ∧ Below w.heap.size w w' := by
  have HV : Hid (∀ W, Below w.heap.size w W → _) := hv
  have HG := Lib.hid hG
  have HC := Lib.hid hc
  clear hv hG hc
  refine (callsIn_wide (n := 6)).1 ?_
  refine callsIn_of_wp_marks Tryd.func58 rfl trivial ?_ rfl
  simp only [Tryd.ntmps58, List.size_toArray, List.length_cons, List.length_nil, Nat.reduceAdd, Nat.reduceSub, Array.replicate_succ, Array.replicate_zero, List.push_toArray, List.append_toArray, List.nil_append, List.cons_append]
  refine wpIn_wide.2 ?_
  go_wp2_with fail
  refine (HV.out _ (by (repeat' (first | (with_reducible exact Below.refl _ _) | (with_reducible assumption) | (with_reducible refine Below.alloc ?_ ?_ _) | (with_reducible refine Below.drew ?_) | (with_reducible refine below_drewN ?_ _) | (with_reducible refine Below.setCell ?_ ?_ _) | (with_reducible refine below_after ?_ ?_ _) | (with_reducible refine below_set ?_) | (with_reducible refine After.size_le _ ?_) | (with_reducible refine size_alloc_le ?_) | (with_reducible refine size_set_le ?_) | (with_reducible refine size_drewN_le ?_) | go_size)))).mono ?_
  rintro e w1 ⟨rfl, hb1⟩
  obtain ⟨q1, q2, q3, q4, q5, q6⟩ := own_boxes i w w1 hb1
  clear hb1
  have Q := Lib.hid (And.intro q1 (And.intro q3 (And.intro q4 (And.intro q5 q6))))
  clear q1 q3 q4 q5 q6
  go_wp2_with (go_at_call 71; refine (beds_any _ _ _ _).mono ?_; rintro e w2 ⟨rfl, rfl⟩)
  obtain ⟨q1, q3, q4, q5, q6⟩ := Q.out
  have fa : Fr (fun _ => False) w1 (w1.alloc (.cells #[.slice (some ⟨b, off, none⟩) n cap] 22)) := (Fr.refl w1).alloc _
  have B0 : Below w.heap.size w (w1.alloc (.cells #[.slice (some ⟨b, off, none⟩) n cap] 22)) := q1.alloc q1.size _
  have e3 := fa.cell id q3
  have e4 := q4.fr fa id
  have e5 := fa.cell id q5
  have e6 := (fa.frozen (p := ⟨w.heap.size + 1 + 1, 0, none⟩) id (by simp; omega)).trans q6
  have ex : (w1.alloc (.cells #[.slice (some ⟨b, off, none⟩) n cap] 22)).cell? ⟨w1.heap.size, 0, none⟩ = some (.slice (some ⟨b, off, none⟩) n cap) := by simp [go_sem]
  have es : (w1.alloc (.cells #[.slice (some ⟨b, off, none⟩) n cap] 22)).heap.size = w1.heap.size + 1 := by simp
  obtain ⟨W0, hW0⟩ : ∃ W0, w1.alloc (.cells #[.slice (some ⟨b, off, none⟩) n cap] 22) = W0 := ⟨_, rfl⟩
  rw [hW0] at fa B0 e3 e4 e5 e6 ex es ⊢
  clear hW0 fa q1 q3 q4 q5 q6 Q HV
  have C0 := HC.out.on hb B0
  have box : ∀ V, Below W0.heap.size W0 V → V.cell? ⟨w.heap.size, 0, none⟩ = some (.int .i64 i) ∧ BedCells V (w.heap.size + 1) zbed ∧ V.cell? ⟨w.heap.size + 1 + 1, 0, none⟩ = some (.int .i64 0) ∧ V.frozen? ⟨w.heap.size + 1 + 1, 0, none⟩ = false := fun V hB =>
    ⟨(hB.cell (p := ⟨w.heap.size, 0, none⟩) (by simp; omega)).trans e3, e4.fr (M := fun j => W0.heap.size ≤ j) (V := V) ⟨hB.os, hB.tape, hB.output, hB.size, fun j _ hn => hB.block j (by omega)⟩ (by omega),
      (hB.cell (p := ⟨w.heap.size + 1 + 1, 0, none⟩) (by simp; omega)).trans e5, (hB.frozen (p := ⟨w.heap.size + 1 + 1, 0, none⟩) (by simp; omega)).trans e6⟩
  have outX : ∀ (V : World) (v : BedV) (e : Int), Below W0.heap.size W0 V → ∃ X, (setBed V (w.heap.size + 1) v).setCell ⟨w.heap.size + 1 + 1, 0, none⟩ (.int .i64 e) = X ∧ BedCells X (w.heap.size + 1) v ∧ X.cell? ⟨w.heap.size + 1 + 1, 0, none⟩ = some (.int .i64 e) ∧ Below w.heap.size w X ∧ (∀ M : Nat → Prop, M (w.heap.size + 1) → M (w.heap.size + 1 + 1) → Fr M V X) := fun V v e hB => by
    obtain ⟨f3, f4, f5, f6⟩ := box V hB
    have hfr : ∀ M : Nat → Prop, M (w.heap.size + 1) → M (w.heap.size + 1 + 1) → Fr M V ((setBed V (w.heap.size + 1) v).setCell ⟨w.heap.size + 1 + 1, 0, none⟩ (.int .i64 e)) := fun M h1 h2 => (setBed_fr (Fr.refl V) h1).setCell (.inl h2) _
    refine ⟨_, rfl, (setBed_cells f4).fr (M := fun i => w.heap.size + 1 + 1 ≤ i) ((Fr.refl _).setCell (p := ⟨w.heap.size + 1 + 1, 0, none⟩) (.inl (by simp)) _) (by omega), World.cell?_setCell_same' _ _ _ (by rw [setBed_other (by simp), f5]; rfl), ?_, hfr⟩
    exact (B0.trans (hB.mono B0.size)).trans ((hfr (fun i => w.heap.size ≤ i) (by omega) (by omega)).below (by have := B0.size; have := hB.size; omega) (fun i h => by omega))
  refine wpIn_wide (n := 6).1 ?_
  refine wpIn_rangeFunc_fr rfl (by omega) (gf := 88) (lb := #[.pointer (some ⟨w1.heap.size, 0, none⟩)]) rfl trivial (enters_of Tryd.func88 (by kernel_rfl) rfl)
    (M := fun j => j = w.heap.size + 1 ∨ j = w.heap.size + 1 + 1)
    (beds1_fr 5 (by omega) w1.heap.size b off cap n f _ W0 (fun j h => by omega) (fun h => by omega) (fun h => by omega) HG.out (by omega) ex C0)
    (fun j h => by omega) (fun _ => rfl)
    (fun pre V => (∀ y ∈ pre, (y.1 : Int) ≠ i) ∧ Below W0.heap.size W0 V)
    (fun c pre V => c = .ret ∧ ∃ x : Ix n, (x.1 : Int) = i ∧ BedCells V (w.heap.size + 1) (bI f n x.1) ∧ V.cell? ⟨w.heap.size + 1 + 1, 0, none⟩ = some (.int .i64 0) ∧ Below w.heap.size w V)
    (Bides.and (bides_pure _ _ (fun pre : List (Ix n) => ∀ y ∈ pre, (y.1 : Int) ≠ i)) (bides_below (Nat.le_refl _) (Nat.le_refl _)))
    (fun c s A A' hs hf => by
      obtain ⟨h1, x, h2, h3, h4, h5⟩ := hs
      exact ⟨h1, x, h2, h3.fr hf (fun h => by have := h.1; omega), hf.cell (p := ⟨w.heap.size + 1 + 1, 0, none⟩) (fun h => by have := h.1; dsimp only at this; omega) h4, h5.trans (hf.below (by have := h5.size; omega) (fun j hj h => by have := h.1; omega))⟩)
    ⟨by simp, Below.refl _ _⟩
    (fun x a' V => ∃ Bb, W0.heap.size + 2 + 5 ≤ Bb ∧ BedCells V Bb (bI f n x.1) ∧ a' = { tmps := #[.slice (some ⟨b, off, none⟩) n cap, .int .i64 i, undef, .pointer (some ⟨w.heap.size, 0, none⟩), .pointer (some ⟨w.heap.size + 1, 0, none⟩), .pointer (some ⟨w.heap.size + 1 + 1, 0, none⟩), .pointer (some ⟨Bb, 0, none⟩), .slice (some ⟨b, off, none⟩) n cap, .bool true, .bool false, undef, .slice (some ⟨b, off, none⟩) n cap, .func (.func 88) #[] #[.pointer (some ⟨w1.heap.size, 0, none⟩)], (bI f n x.1).val, undef, undef, undef, undef, undef, undef], defers := [] })
    (fun x a' _ A A' hs hf => by
      obtain ⟨Bb, h1, h2, h3⟩ := hs
      exact ⟨Bb, h1, bed_kept h2 hf h1, h3⟩)
    ?assign ?body ?done ?stop
  case assign =>
    rintro l' pre x V K hnx ⟨hp, hB⟩ hsz hK
    simp only [BedV.val]
    gi_wp2
    exact hK _ _ ((Fr.refl V).alloc _) ⟨hp, hB.alloc hB.size _⟩ ⟨V.heap.size, by omega, new_bed V _, rfl⟩
  case body =>
    rintro l' pre x a' V ⟨r, hr⟩ hnx ⟨hp, hB⟩ ⟨Bb, hBb, hbd, rfl⟩ hsz
    obtain ⟨k, hkn⟩ := x
    have hix := (bI_ix (f := f) hkn).1
    obtain ⟨f3, f4, f5, f6⟩ := box V hB
    have BB := Lib.hid f4
    generalize hgv : bI f n k = v at *
    obtain ⟨c0, c1, c2, c3, c4, c5, c6, c7, c8, c9, c10, c11, cf⟩ := hbd
    obtain ⟨z0, z1, z2, z3, z4, z5, z6, z7, z8, z9, z10, z11, zf⟩ := f4
    simp only [zbed] at z0 z1 z2 z3 z4 z5 z6 z7 z8 z9 z10 z11
    rw [hix] at c0
    simp only [BedV.val]
    by_cases hik : (k : Int) = i
    · have d1 : ((k : Int) == i) = true := by simpa using hik
      obtain ⟨X, hX, x1, x2, x3, x4⟩ := outX V v 0 hB
      have HIK := Lib.hid hik
      clear hik
      gi_wp2
      unfold setBed at hX
      rw [hix] at hX
      rw [hX]
      exact ⟨x4 _ (.inl (.inl rfl)) (.inl (.inr rfl)), rfl, ⟨k, hkn⟩, HIK.out, by rw [hgv]; exact x1, x2, x3⟩
    · have d1 : ((k : Int) == i) = false := beq_eq_false_iff_ne.2 hik
      gi_wp2
      exact ⟨Fr.refl V, fun y hy => by
        rcases List.mem_append.1 hy with h | h
        · exact hp y h
        · rw [List.mem_singleton.1 h]; exact hik, hB⟩
  case done =>
    rintro D ys V hD hys ⟨hp, hB⟩ hK
    have hno : ¬ (0 ≤ i ∧ i < n) := fun h => by
      have hm := dn_mem (n := n) (k := i.toNat) (by omega)
      rw [← hys] at hm
      obtain ⟨y, h1, h2⟩ := List.mem_map.1 hm
      exact hp y h1 (by omega)
    have e1 : bdV f n i = zbed := if_neg hno
    have e2 : bdE n i = 7 := if_neg hno
    obtain ⟨f3, f4, f5, f6⟩ := box V hB
    obtain ⟨X, hX, x1, x2, x3, x4⟩ := outX V zbed 7 hB
    obtain ⟨z0, z1, z2, z3, z4, z5, z6, z7, z8, z9, z10, z11, zf⟩ := f4
    simp only [zbed] at z0 z1 z2 z3 z4 z5 z6 z7 z8 z9 z10 z11
    have hKX : X.heap[D]? = some (.deferred (some [])) := ((x4 (fun j => j < W0.heap.size) (by omega) (by omega)).same D (Array.getElem?_eq_some_iff.1 hK).1 (by omega)).trans hK
    clear x4
    have E1 := Lib.hid e1
    have E2 := Lib.hid e2
    clear e1 e2
    gi_wp2
    go_wp2
    unfold setBed zbed at hX
    dsimp only at hX
    rw [hX]
    clear hX
    refine ⟨by simp, .inl ⟨_, _, rfl, run_takeDeferred hKX, ?_⟩⟩
    have fp : Fr (fun j => W0.heap.size ≤ j) X (X.putObj D (.deferred none)) := (Fr.put X D _).mono fun j _ e => by omega
    exact ⟨_, bed_out (x1.fr fp (by omega)) (fp.cell (p := ⟨w.heap.size + 1 + 1, 0, none⟩) (by simp; omega) x2), by rw [E1.out, E2.out], x3.trans (fp.below (by have := x3.size; omega) (fun j h => by omega))⟩
  case stop =>
    rintro D c pre X hD hSp ⟨rfl, x, h2, h3, h4, h5⟩ hK
    obtain ⟨k, hkn⟩ := x
    dsimp only at h2 h3
    have hyes : 0 ≤ i ∧ i < n := by omega
    have e1 : bdV f n i = bI f n k := by unfold bdV; rw [if_pos hyes, show i.toNat = k by omega]
    have e2 : bdE n i = 0 := if_pos hyes
    gi_wp2
    refine ⟨by simp, .inl ⟨_, _, rfl, run_takeDeferred hK, ?_⟩⟩
    have fp : Fr (fun j => W0.heap.size ≤ j) X (X.putObj D (.deferred none)) := (Fr.put X D _).mono fun j _ e => by omega
    exact ⟨_, bed_out (h3.fr fp (by omega)) (fp.cell (p := ⟨w.heap.size + 1 + 1, 0, none⟩) (by simp; omega) h4), by rw [e1, e2], h5.trans (fp.below (by have := h5.size; omega) (fun j h => by omega))⟩
end Go.Proofs.YtplhbklfaokjbaaDoor
