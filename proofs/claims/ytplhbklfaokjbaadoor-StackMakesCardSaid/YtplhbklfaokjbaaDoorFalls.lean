/- Falls in the program: the topmost bed that does not hold. -/
import Derived.Test.YtplhbklfaokjbaaDoorArmsay
namespace Go.Proofs.YtplhbklfaokjbaaDoor
open Go.RowKit Go.Shelf
attribute [local go_sem] Oper.semAt_some

def cwE (g : Bool) (p s : Int) : Int := if g then (if WindOk p s then 0 else 7) else 1
section
attribute [local go_sem] After.cell After.frozen After.lt After.le After.ne After.ne' After.set_eq After.size_set After.lt_add
theorem checkWind_any (v : Value) (p s : Int) (g : Bool) (w : World) (hv : CSay w v g) :
    Calls Tryd.prog 70 #[v, .int .i64 p, .int .i64 s] w fun r w' => r = .returned (.int .i64 (cwE g p s)) ∧ Below w.heap.size w w' := by
  have HV : Hid (∀ W, Below w.heap.size w W → _) := hv
  have HW := Lib.hid (validWind_any p s)
  clear hv
  cases g
  · have e : cwE false p s = 1 := rfl
    rw [e]
    clear e
    go_enter Tryd.func70, Tryd.ntmps70
    (go_wp2_with fail); refine calls_after (HV.out _ (by (repeat' (first | (with_reducible exact Below.refl _ _) | (with_reducible assumption) | (with_reducible refine Below.alloc ?_ ?_ _) | (with_reducible refine Below.drew ?_) | (with_reducible refine below_drewN ?_ _) | (with_reducible refine Below.setCell ?_ ?_ _) | (with_reducible refine below_after ?_ ?_ _) | (with_reducible refine below_set ?_) | (with_reducible refine After.size_le _ ?_) | (with_reducible refine size_alloc_le ?_) | (with_reducible refine size_set_le ?_) | (with_reducible refine size_drewN_le ?_) | go_size)))) ?_; intro x1
    go_wp2
    go_ret
    exact ⟨rfl, by (repeat' (first | (with_reducible exact Below.refl _ _) | (with_reducible assumption) | (with_reducible refine Below.alloc ?_ ?_ _) | (with_reducible refine Below.drew ?_) | (with_reducible refine below_drewN ?_ _) | (with_reducible refine Below.setCell ?_ ?_ _) | (with_reducible refine below_after ?_ ?_ _) | (with_reducible refine below_set ?_) | (with_reducible refine After.size_le _ ?_) | (with_reducible refine size_alloc_le ?_) | (with_reducible refine size_set_le ?_) | (with_reducible refine size_drewN_le ?_) | go_size))⟩
  · by_cases hw : WindOk p s
    · have e : cwE true p s = 0 := by unfold cwE; rw [if_pos rfl, if_pos hw]
      rw [e]
      rw [decide_eq_true hw] at HW
      clear e hw
      go_enter Tryd.func70, Tryd.ntmps70
      (go_wp2_with fail); refine calls_after (HV.out _ (by (repeat' (first | (with_reducible exact Below.refl _ _) | (with_reducible assumption) | (with_reducible refine Below.alloc ?_ ?_ _) | (with_reducible refine Below.drew ?_) | (with_reducible refine below_drewN ?_ _) | (with_reducible refine Below.setCell ?_ ?_ _) | (with_reducible refine below_after ?_ ?_ _) | (with_reducible refine below_set ?_) | (with_reducible refine After.size_le _ ?_) | (with_reducible refine size_alloc_le ?_) | (with_reducible refine size_set_le ?_) | (with_reducible refine size_drewN_le ?_) | go_size)))) ?_; intro x1
      (go_wp2_with fail); refine calls_after2 (HW.out _) ?_; intro x2
      go_wp2
      go_ret
      exact ⟨rfl, by (repeat' (first | (with_reducible exact Below.refl _ _) | (with_reducible assumption) | (with_reducible refine Below.alloc ?_ ?_ _) | (with_reducible refine Below.drew ?_) | (with_reducible refine below_drewN ?_ _) | (with_reducible refine Below.setCell ?_ ?_ _) | (with_reducible refine below_after ?_ ?_ _) | (with_reducible refine below_set ?_) | (with_reducible refine After.size_le _ ?_) | (with_reducible refine size_alloc_le ?_) | (with_reducible refine size_set_le ?_) | (with_reducible refine size_drewN_le ?_) | go_size))⟩
    · have e : cwE true p s = 7 := by unfold cwE; rw [if_pos rfl, if_neg hw]
      rw [e]
      rw [decide_eq_false hw] at HW
      clear e hw
      go_enter Tryd.func70, Tryd.ntmps70
      (go_wp2_with fail); refine calls_after (HV.out _ (by (repeat' (first | (with_reducible exact Below.refl _ _) | (with_reducible assumption) | (with_reducible refine Below.alloc ?_ ?_ _) | (with_reducible refine Below.drew ?_) | (with_reducible refine below_drewN ?_ _) | (with_reducible refine Below.setCell ?_ ?_ _) | (with_reducible refine below_after ?_ ?_ _) | (with_reducible refine below_set ?_) | (with_reducible refine After.size_le _ ?_) | (with_reducible refine size_alloc_le ?_) | (with_reducible refine size_set_le ?_) | (with_reducible refine size_drewN_le ?_) | go_size)))) ?_; intro x1
      (go_wp2_with fail); refine calls_after2 (HW.out _) ?_; intro x2
      go_wp2
      go_ret
      exact ⟨rfl, by (repeat' (first | (with_reducible exact Below.refl _ _) | (with_reducible assumption) | (with_reducible refine Below.alloc ?_ ?_ _) | (with_reducible refine Below.drew ?_) | (with_reducible refine below_drewN ?_ _) | (with_reducible refine Below.setCell ?_ ?_ _) | (with_reducible refine below_after ?_ ?_ _) | (with_reducible refine below_set ?_) | (with_reducible refine After.size_le _ ?_) | (with_reducible refine size_alloc_le ?_) | (with_reducible refine size_set_le ?_) | (with_reducible refine size_drewN_le ?_) | go_size))⟩
end

/-- What checkWind answers in every later world. -/
def WSay (w : World) (v : Value) (p s e : Int) : Prop := ∀ W, Below w.heap.size w W → Calls Tryd.prog 70 #[v, .int .i64 p, .int .i64 s] W fun r w' => r = .returned (.int .i64 e) ∧ Below W.heap.size W w'
/-- The topmost bed that does not hold. -/
def topF (f : Nat → Nat → Int) (n : Nat) (p : Int) (s : Nat) : Option Nat := (dn n 0).find? (fun k => !hoB (bI f n k) p s)
def faK (o : Option Nat) : Int := match o with | some k => k | none => 0
def faE (o : Option Nat) : Int := match o with | some _ => 0 | none => 8
theorem topF_none {f : Nat → Nat → Int} {n : Nat} {p : Int} {s : Nat} {ys : List (Ix n)} (h : ys.map (·.1) = dn n 0) (hy : ∀ y ∈ ys, hoB (bI f n y.1) p s = true) : topF f n p s = none := by
  unfold topF
  rw [← h, List.find?_eq_none]
  intro k hk
  obtain ⟨y, h1, rfl⟩ := List.mem_map.1 hk
  simp [hy y h1]
theorem topF_some {f : Nat → Nat → Int} {n : Nat} {p : Int} {s : Nat} {pre : List (Ix n)} {x : Ix n} (h : (pre ++ [x]).map (·.1) <+: dn n 0) (hy : ∀ y ∈ pre, hoB (bI f n y.1) p s = true) (hx : hoB (bI f n x.1) p s = false) : topF f n p s = some x.1 := by
  obtain ⟨t, ht⟩ := h
  unfold topF
  rw [← ht, List.map_append, List.append_assoc, List.find?_append]
  have : (pre.map (·.1)).find? (fun k => !hoB (bI f n k) p s) = none := by
    rw [List.find?_eq_none]
    intro k hk
    obtain ⟨y, h1, rfl⟩ := List.mem_map.1 hk
    simp [hy y h1]
  rw [this]
  simp [hx]

theorem fal_out {X : World} {R E : Nat} {k e : Int} {t0 t1 t2 t3 t4 t5 t8 t9 t10 t11 t12 t13 t14 t15 t16 t17 t18 t19 t20 t21 t22 t23 t24 t25 t26 : Value} (h : X.cell? ⟨R, 0, none⟩ = some (.int .i64 k)) (he : X.cell? ⟨E, 0, none⟩ = some (.int .i64 e)) :
    (results Tryd.f36 #[t0, t1, t2, t3, t4, t5, (.pointer (some ⟨R, 0, none⟩)), (.pointer (some ⟨E, 0, none⟩)), t8, t9, t10, t11, t12, t13, t14, t15, t16, t17, t18, t19, t20, t21, t22, t23, t24, t25, t26]).run Tryd.prog X = .ok (.tuple #[.int .i64 k, .int .i64 e]) X := by
  simp [results, Tryd.results36, go_sem, *]
theorem two_put {w W : World} {R E : Nat} {u v : Value} (k e : Value) (h : W.cell? ⟨R, 0, none⟩ = some u) (h' : W.cell? ⟨E, 0, none⟩ = some v) (hne : R ≠ E) (hb : Below w.heap.size w W) (hR : w.heap.size ≤ R) (hE : w.heap.size ≤ E) :
    ∃ X, (W.setCell ⟨R, 0, none⟩ k).setCell ⟨E, 0, none⟩ e = X ∧ X.cell? ⟨R, 0, none⟩ = some k ∧ X.cell? ⟨E, 0, none⟩ = some e ∧ Below w.heap.size w X ∧ (∀ M : Nat → Prop, M R → M E → Fr M W X) := by
  have d : (⟨E, 0, none⟩ : Addr) ≠ ⟨R, 0, none⟩ := fun h => hne (congrArg Addr.block h).symm
  refine ⟨_, rfl, ?_, ?_, (hb.setCell hR _).setCell hE _, fun M h1 h2 => ((Fr.refl W).setCell (.inl h1) _).setCell (.inl h2) _⟩
  · rw [World.cell?_setCell_other _ _ _ _ d]
    exact World.cell?_setCell_same _ _ _ h
  · exact World.cell?_setCell_same _ _ _ ((World.cell?_setCell_other W _ _ _ (Ne.symm d)).trans h')
/-- The call's own boxes behind a call. -/
theorem four_boxes (p s : Int) (w w1 : World) (hb : Below ((((w.alloc (.cells #[.int .i64 p] 3)).alloc (.cells #[.int .i64 s] 3)).alloc (.cells #[.int .i64 0] 3)).alloc (.cells #[.int .i64 0] 24)).heap.size
      ((((w.alloc (.cells #[.int .i64 p] 3)).alloc (.cells #[.int .i64 s] 3)).alloc (.cells #[.int .i64 0] 3)).alloc (.cells #[.int .i64 0] 24)) w1) :
    Below w.heap.size w w1 ∧ w.heap.size + 4 ≤ w1.heap.size ∧ w1.cell? ⟨w.heap.size, 0, none⟩ = some (.int .i64 p) ∧ w1.cell? ⟨w.heap.size + 1, 0, none⟩ = some (.int .i64 s) ∧ w1.cell? ⟨w.heap.size + 1 + 1, 0, none⟩ = some (.int .i64 0) ∧ w1.cell? ⟨w.heap.size + 1 + 1 + 1, 0, none⟩ = some (.int .i64 0) ∧ w1.frozen? ⟨w.heap.size + 1 + 1, 0, none⟩ = false ∧ w1.frozen? ⟨w.heap.size + 1 + 1 + 1, 0, none⟩ = false := by
  have hf : Fr (fun _ => False) _ w1 := fr_below hb
  have hs := hb.size
  simp only [World.size_alloc] at hs
  exact ⟨(by (repeat' (first | (with_reducible exact Below.refl _ _) | (with_reducible assumption) | (with_reducible refine Below.alloc ?_ ?_ _) | (with_reducible refine Below.drew ?_) | (with_reducible refine below_drewN ?_ _) | (with_reducible refine Below.setCell ?_ ?_ _) | (with_reducible refine below_after ?_ ?_ _) | (with_reducible refine below_set ?_) | (with_reducible refine After.size_le _ ?_) | (with_reducible refine size_alloc_le ?_) | (with_reducible refine size_set_le ?_) | (with_reducible refine size_drewN_le ?_) | go_size)) : Below w.heap.size w _).trans (hb.mono (by simp; omega)), by omega, hf.cell id (by simp [go_sem]), hf.cell id (by simp [go_sem]), hf.cell id (by simp [go_sem]), hf.cell id (by simp [go_sem]), (hf.frozen (p := ⟨w.heap.size + 1 + 1, 0, none⟩) id (by simp)).trans (by simp [go_sem]), (hf.frozen (p := ⟨w.heap.size + 1 + 1 + 1, 0, none⟩) id (by simp)).trans (by simp [go_sem])⟩

set_option maxRecDepth 100000 in
set_option maxHeartbeats 1000000 in
theorem falls_err (a : Option Addr) (n cap : Nat) (p s e : Int) (w : World) (hW : WSay w (.slice a n cap) p s e) (he : (e == 0) = false) :
    Calls Tryd.prog 36 #[.slice a n cap, .int .i64 p, .int .i64 s] w fun r w' => r = .returned (.tuple #[.int .i64 0, .int .i64 e]) ∧ Below w.heap.size w w' := by
  have HV : Hid (∀ W, Below w.heap.size w W → _) := hW
  clear hW
  go_enter Tryd.func36, Tryd.ntmps36
  go_wp2_with fail
  refine (HV.out _ (by (repeat' (first | (with_reducible exact Below.refl _ _) | (with_reducible assumption) | (with_reducible refine Below.alloc ?_ ?_ _) | (with_reducible refine Below.drew ?_) | (with_reducible refine below_drewN ?_ _) | (with_reducible refine Below.setCell ?_ ?_ _) | (with_reducible refine below_after ?_ ?_ _) | (with_reducible refine below_set ?_) | (with_reducible refine After.size_le _ ?_) | (with_reducible refine size_alloc_le ?_) | (with_reducible refine size_set_le ?_) | (with_reducible refine size_drewN_le ?_) | go_size)))).mono ?_
  rintro r w1 ⟨rfl, hb⟩
  obtain ⟨q1, q2, q3, q4, q5, q6, q7, q8⟩ := four_boxes p s w w1 hb
  obtain ⟨X, hX, x1, x2, x3, _⟩ := two_put (w := w) (.int .i64 0) (.int .i64 e) q5 q6 (by omega) q1 (by omega) (by omega)
  clear hb
  go_wp2
  exact bodyPost_ret (fal_out x1 x2) rfl ⟨rfl, x3⟩

set_option maxRecDepth 100000 in
set_option maxHeartbeats 2000000 in
theorem falls_ok (b off cap n : Nat) (f : Nat → Nat → Int) (p : Int) (s : Nat) (w : World) (hb : b < w.heap.size) (hc : CrCells w b off n f) (hG : GoodC n f) (hT : Tab w) (hw : WindOk p s) (hW : WSay w (.slice (some ⟨b, off, none⟩) n cap) p s 0) :
    Calls Tryd.prog 36 #[.slice (some ⟨b, off, none⟩) n cap, .int .i64 p, .int .i64 s] w fun e w' => e = .returned (.tuple #[.int .i64 (faK (topF f n p s)), .int .i64 (faE (topF f n p s))]) ∧ Below w.heap.size w w' := by
  have HV : Hid (∀ W, Below w.heap.size w W → _) := hW
  have HG := Lib.hid hG
  have HC := Lib.hid hc
  have hs4 : s < 4 := by have := hw.2; unfold Btw at this; omega
  have HM : Hid (∀ (k : Nat) W, k < n → Below w.heap.size w W → Calls Tryd.prog 68 #[(bI f n k).val, .int .i64 p, .int .i64 s] W fun e w' => e = .returned (.bool (hoB (bI f n k) p s)) ∧ Below W.heap.size W w') :=
    fun k W hk hB => holds_any _ p s W (hT.on hB) (inB_bI hG hk) (inO_bI hG hk) hs4 hw.1.1 hw.1.2
  clear hW hG hc hT hw hs4
  refine (callsIn_wide (n := 6)).1 ?_
  refine callsIn_of_wp_marks Tryd.func36 rfl trivial ?_ rfl
  simp only [Tryd.ntmps36, List.size_toArray, List.length_cons, List.length_nil, Nat.reduceAdd, Nat.reduceSub, Array.replicate_succ, Array.replicate_zero, List.push_toArray, List.append_toArray, List.nil_append, List.cons_append]
  refine wpIn_wide.2 ?_
  go_wp2_with fail
  refine (HV.out _ (by (repeat' (first | (with_reducible exact Below.refl _ _) | (with_reducible assumption) | (with_reducible refine Below.alloc ?_ ?_ _) | (with_reducible refine Below.drew ?_) | (with_reducible refine below_drewN ?_ _) | (with_reducible refine Below.setCell ?_ ?_ _) | (with_reducible refine below_after ?_ ?_ _) | (with_reducible refine below_set ?_) | (with_reducible refine After.size_le _ ?_) | (with_reducible refine size_alloc_le ?_) | (with_reducible refine size_set_le ?_) | (with_reducible refine size_drewN_le ?_) | go_size)))).mono ?_
  rintro e w1 ⟨rfl, hb1⟩
  obtain ⟨q1, q2, q3, q4, q5, q6, q7, q8⟩ := four_boxes p s w w1 hb1
  clear hb1
  have Q := Lib.hid (And.intro q1 (And.intro q3 (And.intro q4 (And.intro q5 (And.intro q6 (And.intro q7 q8))))))
  clear q1 q3 q4 q5 q6 q7 q8
  go_wp2_with (go_at_call 71; refine (beds_any _ _ _ _).mono ?_; rintro e w2 ⟨rfl, rfl⟩)
  obtain ⟨q1, q3, q4, q5, q6, q7, q8⟩ := Q.out
  have fa : Fr (fun _ => False) w1 (w1.alloc (.cells #[.slice (some ⟨b, off, none⟩) n cap] 22)) := (Fr.refl w1).alloc _
  have B0 : Below w.heap.size w (w1.alloc (.cells #[.slice (some ⟨b, off, none⟩) n cap] 22)) := q1.alloc q1.size _
  have e3 := fa.cell id q3
  have e4 := fa.cell id q4
  have e5 := fa.cell id q5
  have e6 := fa.cell id q6
  have e7 := (fa.frozen (p := ⟨w.heap.size + 1 + 1, 0, none⟩) id (by simp; omega)).trans q7
  have e8 := (fa.frozen (p := ⟨w.heap.size + 1 + 1 + 1, 0, none⟩) id (by simp; omega)).trans q8
  have ex : (w1.alloc (.cells #[.slice (some ⟨b, off, none⟩) n cap] 22)).cell? ⟨w1.heap.size, 0, none⟩ = some (.slice (some ⟨b, off, none⟩) n cap) := by simp [go_sem]
  have es : (w1.alloc (.cells #[.slice (some ⟨b, off, none⟩) n cap] 22)).heap.size = w1.heap.size + 1 := by simp
  obtain ⟨W0, hW0⟩ : ∃ W0, w1.alloc (.cells #[.slice (some ⟨b, off, none⟩) n cap] 22) = W0 := ⟨_, rfl⟩
  rw [hW0] at fa B0 e3 e4 e5 e6 e7 e8 ex es ⊢
  clear hW0 fa q1 q3 q4 q5 q6 q7 q8 Q HV
  have C0 := HC.out.on hb B0
  have box : ∀ V, Below W0.heap.size W0 V → V.cell? ⟨w.heap.size, 0, none⟩ = some (.int .i64 p) ∧ V.cell? ⟨w.heap.size + 1, 0, none⟩ = some (.int .i64 s) ∧ V.cell? ⟨w.heap.size + 1 + 1, 0, none⟩ = some (.int .i64 0) ∧ V.cell? ⟨w.heap.size + 1 + 1 + 1, 0, none⟩ = some (.int .i64 0) ∧ V.frozen? ⟨w.heap.size + 1 + 1, 0, none⟩ = false ∧ V.frozen? ⟨w.heap.size + 1 + 1 + 1, 0, none⟩ = false := fun V hB =>
    ⟨(hB.cell (p := ⟨w.heap.size, 0, none⟩) (by simp; omega)).trans e3, (hB.cell (p := ⟨w.heap.size + 1, 0, none⟩) (by simp; omega)).trans e4, (hB.cell (p := ⟨w.heap.size + 1 + 1, 0, none⟩) (by simp; omega)).trans e5, (hB.cell (p := ⟨w.heap.size + 1 + 1 + 1, 0, none⟩) (by simp; omega)).trans e6, (hB.frozen (p := ⟨w.heap.size + 1 + 1, 0, none⟩) (by simp; omega)).trans e7, (hB.frozen (p := ⟨w.heap.size + 1 + 1 + 1, 0, none⟩) (by simp; omega)).trans e8⟩
  refine wpIn_wide (n := 6).1 ?_
  refine wpIn_rangeFunc_fr rfl (by omega) (gf := 88) (lb := #[.pointer (some ⟨w1.heap.size, 0, none⟩)]) rfl trivial (enters_of Tryd.func88 (by kernel_rfl) rfl)
    (M := fun j => j = w.heap.size + 1 + 1 ∨ j = w.heap.size + 1 + 1 + 1)
    (beds1_fr 5 (by omega) w1.heap.size b off cap n f _ W0 (fun j h => by omega) (fun h => by omega) (fun h => by omega) HG.out (by omega) ex C0)
    (fun j h => by omega) (fun _ => rfl)
    (fun pre V => (∀ y ∈ pre, hoB (bI f n y.1) p s = true) ∧ Below W0.heap.size W0 V)
    (fun c pre V => c = .ret ∧ ∃ pre' x, pre = pre' ++ [x] ∧ (∀ y ∈ pre', hoB (bI f n y.1) p s = true) ∧ hoB (bI f n x.1) p s = false ∧ V.cell? ⟨w.heap.size + 1 + 1, 0, none⟩ = some (.int .i64 (x.1 : Nat)) ∧ V.cell? ⟨w.heap.size + 1 + 1 + 1, 0, none⟩ = some (.int .i64 0) ∧ Below w.heap.size w V)
    (Bides.and (bides_pure _ _ (fun pre : List (Ix n) => ∀ y ∈ pre, hoB (bI f n y.1) p s = true)) (bides_below (Nat.le_refl _) (Nat.le_refl _)))
    (fun c z A A' hs hf => by
      obtain ⟨h1, pre', x, h2, h3, h4, h5, h6, h7⟩ := hs
      exact ⟨h1, pre', x, h2, h3, h4, hf.cell (p := ⟨w.heap.size + 1 + 1, 0, none⟩) (fun h => by have := h.1; dsimp only at this; omega) h5, hf.cell (p := ⟨w.heap.size + 1 + 1 + 1, 0, none⟩) (fun h => by have := h.1; dsimp only at this; omega) h6, h7.trans (hf.below (by have := h7.size; omega) (fun j hj h => by have := h.1; omega))⟩)
    ⟨by simp, Below.refl _ _⟩
    (fun x a' V => ∃ Bb, W0.heap.size + 2 + 5 ≤ Bb ∧ BedCells V Bb (bI f n x.1) ∧ a' = { tmps := #[.slice (some ⟨b, off, none⟩) n cap, .int .i64 p, .int .i64 s, undef, .pointer (some ⟨w.heap.size, 0, none⟩), .pointer (some ⟨w.heap.size + 1, 0, none⟩), .pointer (some ⟨w.heap.size + 1 + 1, 0, none⟩), .pointer (some ⟨w.heap.size + 1 + 1 + 1, 0, none⟩), .int .i64 0, .pointer (some ⟨Bb, 0, none⟩), .slice (some ⟨b, off, none⟩) n cap, .int .i64 p, .int .i64 s, .int .i64 0, .int .i64 0, .bool false, undef, .slice (some ⟨b, off, none⟩) n cap, .func (.func 88) #[] #[.pointer (some ⟨w1.heap.size, 0, none⟩)], (bI f n x.1).val, undef, undef, undef, undef, undef, undef, undef], defers := [] })
    (fun x a' _ A A' hs hf => by
      obtain ⟨Bb, h1, h2, h3⟩ := hs
      exact ⟨Bb, h1, bed_kept h2 hf h1, h3⟩)
    ?assign ?body ?done ?stop
  case assign =>
    rintro l' pre x V K hnx ⟨hp, hB⟩ hsz hK
    simp only [BedV.val]
    gi_wp2
    exact hK _ _ ((Fr.refl V).alloc _) ⟨hp, hB.alloc hB.size _⟩ ⟨V.heap.size, by omega, new_bed V _, rfl⟩
  case body =>
    rintro l' pre x a' V ⟨r, hr⟩ hnx ⟨hp, hB⟩ ⟨Bb, hBb, hbd, rfl⟩ hsz
    obtain ⟨k, hkn⟩ := x
    have hix := (bI_ix (f := f) hkn).1
    obtain ⟨f3, f4, f5, f6, f7, f8⟩ := box V hB
    have HO := Lib.hid (fun X (hX : Below w.heap.size w X) => HM.out k X hkn hX)
    have hBw := B0.trans (hB.mono B0.size)
    have HBw := Lib.hid hBw
    have HB := Lib.hid hB
    have HBb := hbd.lt
    obtain ⟨z, hz⟩ : ∃ z, hoB (bI f n k) p s = z := ⟨_, rfl⟩
    have HZ := Lib.hid hz
    have HP := Lib.hid hp
    rw [hz] at HO
    clear hz hp hB hBw
    have BD := Lib.hid hbd
    generalize hgv : bI f n k = v at *
    obtain ⟨c0, c1, c2, c3, c4, c5, c6, c7, c8, c9, c10, c11, cf⟩ := hbd
    rw [hix] at c0
    simp only [BedV.val] at HO ⊢
    rw [hix] at HO ⊢
    gi_wp2
    refine ⟨trivial, (CallsIn.inRound l' (callsIn_wide.2 (HO.out _ HBw.out))).mono ?_⟩
    rintro e w2 ⟨rfl, hw2⟩
    have hB2 := HB.out.trans (hw2.mono HB.out.size)
    have hBw2 := HBw.out.trans (hw2.mono HBw.out.size)
    obtain ⟨g3, g4, g5, g6, g7, g8⟩ := box w2 hB2
    obtain ⟨i0, i1, i2, i3, i4, i5, i6, i7, i8, i9, i10, i11, if'⟩ := BD.out.fr (M := fun _ => False) ((Fr.refl V).call hw2) id
    rw [hix] at i0
    have HW2 := Lib.hid hw2
    have HB2 := Lib.hid hB2
    clear c0 c1 c2 c3 c4 c5 c6 c7 c8 c9 c10 c11 cf f3 f4 f5 f6 f7 f8 hw2 hB2
    cases z
    · obtain ⟨X, hX, x1, x2, x3, x4⟩ := two_put (w := w) (.int .i64 (k : Nat)) (.int .i64 0) g5 g6 (by omega) hBw2 (by omega) (by omega)
      have HX := Lib.hid hX
      clear hX
      gi_wp2
      rw [HX.out]
      refine ⟨?_, rfl, pre, ⟨k, hkn⟩, rfl, HP.out, by rw [hgv]; exact HZ.out, x1, x2, x3⟩
      exact ((Fr.refl V).call HW2.out).then (x4 (RndM (fun j => j = w.heap.size + 1 + 1 ∨ j = w.heap.size + 1 + 1 + 1) (W0.heap.size + 2 + 5) V) (.inl (.inl rfl)) (.inl (.inr rfl))) (fun i _ h _ => h)
    · gi_wp2
      exact ⟨(Fr.refl V).call HW2.out, fun y hy => by
        rcases List.mem_append.1 hy with h | h
        · exact HP.out y h
        · rw [List.mem_singleton.1 h, hgv]; exact HZ.out, HB2.out⟩
  case done =>
    rintro D ys V hD hys ⟨hp, hB⟩ hK
    have e1 : topF f n p s = none := topF_none hys hp
    obtain ⟨f3, f4, f5, f6, f7, f8⟩ := box V hB
    obtain ⟨X, hX, x1, x2, x3, x4⟩ := two_put (w := w) (.int .i64 0) (.int .i64 8) f5 f6 (by omega) (B0.trans (hB.mono B0.size)) (by omega) (by omega)
    have hKX : X.heap[D]? = some (.deferred (some [])) := ((x4 (fun j => j < W0.heap.size) (by omega) (by omega)).same D (Array.getElem?_eq_some_iff.1 hK).1 (by omega)).trans hK
    clear x4
    have E1 := Lib.hid e1
    have HX := Lib.hid hX
    clear e1 hX
    gi_wp2
    go_wp2
    rw [HX.out]
    refine ⟨by simp, .inl ⟨_, _, rfl, run_takeDeferred hKX, ?_⟩⟩
    have fp : Fr (fun j => W0.heap.size ≤ j) X (X.putObj D (.deferred none)) := (Fr.put X D _).mono fun j _ e => by omega
    exact ⟨_, fal_out (fp.cell (p := ⟨w.heap.size + 1 + 1, 0, none⟩) (by simp; omega) x1) (fp.cell (p := ⟨w.heap.size + 1 + 1 + 1, 0, none⟩) (by simp; omega) x2), by rw [E1.out]; rfl, x3.trans (fp.below (by have := x3.size; omega) (fun j h => by omega))⟩
  case stop =>
    rintro D c pre X hD hSp ⟨rfl, pre', x, rfl, h2, h3, h4, h5, h6⟩ hK
    have e1 : topF f n p s = some x.1 := topF_some hSp h2 h3
    gi_wp2
    refine ⟨by simp, .inl ⟨_, _, rfl, run_takeDeferred hK, ?_⟩⟩
    have fp : Fr (fun j => W0.heap.size ≤ j) X (X.putObj D (.deferred none)) := (Fr.put X D _).mono fun j _ e => by omega
    exact ⟨_, fal_out (fp.cell (p := ⟨w.heap.size + 1 + 1, 0, none⟩) (by simp; omega) h4) (fp.cell (p := ⟨w.heap.size + 1 + 1 + 1, 0, none⟩) (by simp; omega) h5), by rw [e1]; rfl, h6.trans (fp.below (by have := h6.size; omega) (fun j h => by omega))⟩
end Go.Proofs.YtplhbklfaokjbaaDoor
