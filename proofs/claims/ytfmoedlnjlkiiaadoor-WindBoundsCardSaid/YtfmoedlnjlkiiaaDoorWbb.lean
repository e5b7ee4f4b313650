/- Bounds in the program: the tally behind all minutes. -/
import Derived.Test.YtfmoedlnjlkiiaaDoorWbd
namespace Go.Proofs.YtfmoedlnjlkiiaaDoor
open Go.RowKit
attribute [local go_sem] After.cell After.frozen After.lt After.le After.ne After.ne' After.set_eq After.size_set After.lt_add

/-- What lies beside the counts. -/
structure EnB (w W : World) (S0 : Nat) (G H : Value) (s g c : Int) (a : Option Addr) (n cap : Nat) : Prop where
  st : W.heap[S0]? = some (.cells #[G, H] 107 (0, 0))
  wa : W.heap[w.heap.size]? = some (.cells #[.int .i64 s, .int .i64 g, .int .i64 c, .slice a n cap] 67 (0, 0))
  re : W.heap[w.heap.size + 1]? = some (.cells #[.bool false, .int .i64 0, .int .i64 0] 88 (0, 0))
  be : Below w.heap.size w W
  ne : w.heap.size + 1 + 1 < S0
section
variable {w W W' : World} {S0 : Nat} {G H : Value} {s g c : Int} {a : Option Addr} {n cap : Nat}
theorem EnB.on (h : EnB w W S0 G H s g c a n cap) (hb : Below W.heap.size W W') : EnB w W' S0 G H s g c a n cap :=
  ⟨obj_on h.st hb, obj_on h.wa hb, obj_on h.re hb, h.be.trans (hb.mono h.be.size), h.ne⟩
theorem EnB.row (h : EnB w W S0 G H s g c a n cap) (cs : Array Value) : EnB w (W.setRow (w.heap.size + 1 + 1) cs) S0 G H s g c a n cap :=
  ⟨(setRow_other W _ _ cs (by have := h.ne; omega)).trans h.st, (setRow_other W _ _ cs (by omega)).trans h.wa, (setRow_other W _ _ cs (by omega)).trans h.re,
    ⟨h.be.os, h.be.tape, h.be.output, by rw [setRow_size]; exact h.be.size, fun b hb => (setRow_other W _ b _ (by omega)).trans (h.be.block b hb)⟩, h.ne⟩
theorem EnB.cells (h : EnB w W S0 G H s g c a n cap) : (W.cell? ⟨S0, 0, none⟩ = some G ∧ W.cell? ⟨S0, 1, none⟩ = some H) ∧ W.cell? ⟨w.heap.size, 0, none⟩ = some (.int .i64 s) ∧ W.cell? ⟨w.heap.size, 1, none⟩ = some (.int .i64 g) ∧ W.cell? ⟨w.heap.size, 2, none⟩ = some (.int .i64 c) ∧ W.cell? ⟨w.heap.size, 3, none⟩ = some (.slice a n cap) := by
  refine ⟨⟨?_, ?_⟩, ?_, ?_, ?_, ?_⟩
  · rw [cell_of_row W _ _ _ _ (0, 0) h.st]; rfl
  · rw [cell_of_row W _ _ _ _ (0, 0) h.st]; rfl
  · rw [cell_of_row W _ _ _ _ (0, 0) h.wa]; rfl
  · rw [cell_of_row W _ _ _ _ (0, 0) h.wa]; rfl
  · rw [cell_of_row W _ _ _ _ (0, 0) h.wa]; rfl
  · rw [cell_of_row W _ _ _ _ (0, 0) h.wa]; rfl
end
/-- The counts before all minutes. -/
theorem cvA_first : Tryd.zeroCells112.setIfInBounds 0 (.bool true) = cvA (setT (fun _ => none) 0 (some (0, 0))) := by
  rw [zero_cvA, ← cvA_set (by decide : 0 < 241) (some (0, 0))]
  apply Array.ext_getElem?
  intro i
  simp only [Array.getElem?_setIfInBounds, Array.size_setIfInBounds, cvA_size]
  by_cases e0 : 0 = i
  · subst e0; rfl
  · by_cases e1 : 1 = i
    · subst e1; simp only [if_neg e0]; rw [cvA_get (by omega)]; rfl
    · by_cases e2 : 2 = i
      · subst e2; simp only [if_neg e0]; rw [cvA_get (by omega)]; rfl
      · simp only [if_neg e0, if_neg (show ¬ 0 * 3 + 2 = i by omega), if_neg (show ¬ 0 * 3 + 1 = i by omega)]
theorem ss_first {s g c : Int} {f : Nat → Int} (v : Nat) : Rep (SS s g c f 0 v) (setT (fun _ => none) 0 (some (0, 0)) v) := by
  unfold setT
  by_cases h : v = 0
  · subst h
    exact ⟨⟨rfl, rfl⟩, ⟨rfl, rfl⟩, fun m hm => by obtain ⟨_, rfl⟩ := hm; exact ⟨Int.le_refl _, Int.le_refl _⟩⟩
  · rw [if_neg h]
    intro m hm
    have := hm.1
    omega
theorem BxT.set {W : World} {X : Nat} {t : Ty} (h : BxT W X t) (u : Ty) : BxT (((W.setCell ⟨X, 0, none⟩ (.bool (tyc u))).setCell ⟨X, 1, none⟩ (.int .i64 (ty1 u))).setCell ⟨X, 2, none⟩ (.int .i64 (ty2 u))) X u :=
  ⟨Go.Joins.block_setCell (Go.Joins.block_setCell (Go.Joins.block_setCell h.obj _) _) _⟩
theorem BxT.free {W : World} {X : Nat} {t : Ty} (h : BxT W X t) (j : Nat) : W.frozen? ⟨X, j, none⟩ = false := frozen_of_row W X j _ _ h.obj
/-- The states up to k together. -/
def UpS (s g c : Int) (f : Nat → Int) (n k : Nat) (m : Int) : Prop := ∃ v : Int, 0 ≤ v ∧ v < k ∧ SS s g c f n v m
theorem up_succ {s g c : Int} {f : Nat → Int} {n k : Nat} {U t : Ty} (h : Rep (UpS s g c f n k) U) (ht : Rep (SS s g c f n k) t) : Rep (UpS s g c f n (k + 1)) (orT U t) := by
  refine rep_iff (rep_or h ht) fun m => ⟨?_, ?_⟩
  · rintro (⟨v, h1, h2, h3⟩ | h3)
    · exact ⟨v, h1, by omega, h3⟩
    · exact ⟨k, by omega, by omega, h3⟩
  · rintro ⟨v, h1, h2, h3⟩
    by_cases e : v = k
    · subst e; exact .inr h3
    · exact .inl ⟨v, h1, by omega, h3⟩
theorem up_all {s g c : Int} (hc : 1 ≤ c ∧ c ≤ 240) {f : Nat → Int} {n : Nat} {U : Ty} (h : Rep (UpS s g c f n 241) U) : Rep (AllS s g c f n) U :=
  rep_iff h fun m => ⟨fun ⟨v, _, _, h⟩ => ⟨v, h⟩, fun ⟨v, h⟩ => ⟨v, by have := ss_bd hc.1 h; omega, by have := ss_bd hc.1 h; omega, h⟩⟩
theorem all_some {s g c : Int} {f : Nat → Int} {n : Nat} (hG : GoodG n f) {U : Ty} (h : Rep (AllS s g c f n) U) : ∃ p1 p2, U = some (p1, p2) := by
  cases U with
  | some p => exact ⟨p.1, p.2, rfl⟩
  | none =>
    refine absurd ⟨_, ss_of (s := s) (g := g) (c := c) (f := f) (h := fun i => if f i = -1 then 0 else f i) n fun i hi => ?_⟩ (h _)
    have := hG.2 i hi
    unfold OkG Btw at this
    unfold Can
    split <;> simp_all
/-- The readings of a minute, whatever it is. -/
theorem readings_all (s g c y : Int) (a : Option Addr) (n cap : Nat) (hr : (1 ≤ s ∧ s ≤ 200) ∧ (1 ≤ g ∧ g ≤ s) ∧ (1 ≤ c ∧ c ≤ 240)) (hy : -1 ≤ y ∧ y ≤ 200) :
    ∃ (m : Nat) (h : Nat → Int), m ≤ 5 ∧ (∀ W, Calls Tryd.prog 83 #[waV s g c a n cap, .int .i64 y] W fun e w' => (∃ B c1, e = .returned (.slice (some ⟨B, 0, none⟩) m c1) ∧ IAt w' (some ⟨B, 0, none⟩) m h) ∧ Below W.heap.size W w') ∧
      ∀ (S : Int → Int → Prop) (v mm : Int), Acc s g c S (fun _ x => ∃ i, i < m ∧ x = h i) v mm ↔ Acc s g c S (fun _ x => Can y x) v mm := by
  by_cases e : y = -1
  · subst e
    refine ⟨2, fun i => if i = 0 then 0 else s, by omega, fun W => (readings_none s g c a n cap W).mono ?_, fun S v mm => acc_gusts hr.1 hr.2.1 ?_ ?_ ?_ ?_⟩
    · rintro e w' ⟨⟨B, c1, rfl, h0, h1⟩, hb⟩
      refine ⟨⟨B, c1, rfl, fun i hi => ⟨B, 0, rfl, World.block_lt_of_cell? _ _ h0, ?_⟩⟩, hb⟩
      have h3 : i = 0 ∨ i = 1 := by omega
      rcases h3 with rfl | rfl
      · exact h0
      · exact h1
    · rintro x ⟨i, hi, rfl⟩
      unfold Can
      rw [if_pos rfl]
      dsimp only
      split <;> omega
    · intro h; exact absurd rfl h
    · intro _; exact ⟨0, by omega, rfl⟩
    · intro _; exact ⟨1, by omega, rfl⟩
  · refine ⟨1, fun _ => y, by omega, fun W => (readings_some s g c y a n cap W e).mono ?_, fun S v mm => acc_gusts hr.1 hr.2.1 ?_ ?_ ?_ ?_⟩
    · rintro e w' ⟨⟨B, c1, rfl, h0⟩, hb⟩
      refine ⟨⟨B, c1, rfl, fun i hi => ⟨B, 0, rfl, World.block_lt_of_cell? _ _ h0, ?_⟩⟩, hb⟩
      obtain rfl : i = 0 := by omega
      exact h0
    · rintro x ⟨i, hi, rfl⟩
      unfold Can
      rw [if_neg e]
    · intro _; exact ⟨0, by omega, rfl⟩
    · intro h; exact absurd h e
    · intro h; exact absurd h e
attribute [-simp] Tryd.isAgg112 Tryd.sizeOf112
set_option maxRecDepth 100000 in
set_option maxHeartbeats 4000000 in
theorem bounds_walk (s g c : Int) (a : Option Addr) (n cap : Nat) (f : Nat → Int) (w : World) (hA : IAt w a n f) (hG : GoodG n f) (hr : GoodRu s g c) :
    Calls Tryd.prog 64 #[waV s g c a n cap] w fun e w' => (∃ p1 p2, e = .returned (.agg #[.bool true, .int .i64 p1, .int .i64 p2]) ∧ Rep (AllS s g c f n) (some (p1, p2))) ∧ Below w.heap.size w w' := by
  have HSo := Lib.hid (fun W => statesOf_any s g c W)
  have HRd := Lib.hid (fun y hr hy => readings_all s g c y a n cap hr hy)
  have HAf := Lib.hid (fun T a n cap f S W => after_say T s g c a n cap f S W)
  have HA := Lib.hid hA
  unfold waV at *
  have hn := hG.1
  have hnI : (n : Int) ≤ 2000 := by omega
  have hGR := Lib.hid (show (1 ≤ s ∧ s ≤ 200) ∧ (1 ≤ g ∧ g ≤ s) ∧ (1 ≤ c ∧ c ≤ 240) from hr)
  have hGG := Lib.hid hG
  obtain ⟨XX, hXX⟩ : ∃ XX : Array Value, XX = #[.agg #[.int .i64 s, .int .i64 g, .int .i64 c]] := ⟨_, rfl⟩
  have hG' : goF s g c = .func (.func 92) XX #[] := by rw [hXX]; rfl
  have hH' : stF s g c = .func (.func 93) XX #[] := by rw [hXX]; rfl
  rw [hG', hH'] at HSo
  rw [hG', hH'] at HAf
  clear hA hG hr hG' hH' hXX
  go_enter Tryd.func64, Tryd.ntmps64
  go_wp2_with fail
  rw [cvA_first]
  obtain ⟨V0, hV0⟩ : ∃ V0, V0 = ((w.alloc (.cells #[.int .i64 s, .int .i64 g, .int .i64 c, .slice a n cap] 67)).alloc (.cells #[.bool false, .int .i64 0, .int .i64 0] 88)).alloc (.cells (cvA (setT (fun _ => none) 0 (some (0, 0)))) 112) := ⟨_, rfl⟩
  have hvb : Below w.heap.size w V0 := by rw [hV0]; (repeat' (first | (with_reducible exact Below.refl _ _) | (with_reducible assumption) | (with_reducible refine Below.alloc ?_ ?_ _) | (with_reducible refine Below.drew ?_) | (with_reducible refine below_drewN ?_ _) | (with_reducible refine Below.setCell ?_ ?_ _) | (with_reducible refine below_after ?_ ?_ _) | (with_reducible refine below_set ?_) | (with_reducible refine After.size_le _ ?_) | (with_reducible refine size_alloc_le ?_) | (with_reducible refine size_set_le ?_) | (with_reducible refine size_drewN_le ?_) | go_size))
  have hv0 : V0.heap[w.heap.size]? = some (.cells #[.int .i64 s, .int .i64 g, .int .i64 c, .slice a n cap] 67 (0, 0)) := by rw [hV0, Go.heap_alloc_old _ _ (by simp; omega), Go.heap_alloc_old _ _ (by simp), heap_alloc_new]
  have hv1 : V0.heap[w.heap.size + 1]? = some (.cells #[.bool false, .int .i64 0, .int .i64 0] 88 (0, 0)) := by
    have h := heap_alloc_new (w.alloc (.cells #[.int .i64 s, .int .i64 g, .int .i64 c, .slice a n cap] 67)) (.cells #[.bool false, .int .i64 0, .int .i64 0] 88)
    rw [show (w.alloc (.cells #[.int .i64 s, .int .i64 g, .int .i64 c, .slice a n cap] 67)).heap.size = w.heap.size + 1 by simp] at h
    rw [hV0, Go.heap_alloc_old _ _ (by simp)]; exact h
  have hv2 : V0.heap[w.heap.size + 1 + 1]? = some (.cells (cvA (setT (fun _ => none) 0 (some (0, 0)))) 112 (0, 0)) := by
    have h := heap_alloc_new ((w.alloc (.cells #[.int .i64 s, .int .i64 g, .int .i64 c, .slice a n cap] 67)).alloc (.cells #[.bool false, .int .i64 0, .int .i64 0] 88)) (.cells (cvA (setT (fun _ => none) 0 (some (0, 0)))) 112)
    rw [show ((w.alloc (.cells #[.int .i64 s, .int .i64 g, .int .i64 c, .slice a n cap] 67)).alloc (.cells #[.bool false, .int .i64 0, .int .i64 0] 88)).heap.size = w.heap.size + 1 + 1 by simp] at h
    rw [hV0]; exact h
  rw [← hV0]
  clear hV0
  have hvl := obj_lt hv2
  refine (HSo.out _).mono ?_
  rintro e w1 ⟨rfl, hb1, hs1⟩
  have hE0 : EnB w (w1.alloc (.cells #[.func (.func 92) XX #[], .func (.func 93) XX #[]] 107)) w1.heap.size (.func (.func 92) XX #[]) (.func (.func 93) XX #[]) s g c a n cap := by
    have hb2 : Below V0.heap.size V0 (w1.alloc (.cells #[.func (.func 92) XX #[], .func (.func 93) XX #[]] 107)) := hb1.alloc hb1.size _
    exact ⟨heap_alloc_new w1 _, obj_on hv0 hb2, obj_on hv1 hb2, hvb.trans (hb2.mono hvb.size), by omega⟩
  have hB0 : BxA (w1.alloc (.cells #[.func (.func 92) XX #[], .func (.func 93) XX #[]] 107)) (w.heap.size + 1 + 1) (setT (fun _ => none) 0 (some (0, 0))) := ⟨obj_on hv2 (hb1.alloc hb1.size _)⟩
  have e0 := (show V0.cell? ⟨w.heap.size, 0, none⟩ = some (.int .i64 s) by rw [cell_of_row V0 _ _ _ _ (0, 0) hv0]; rfl)
  have d3 : w1.cell? ⟨w.heap.size, 3, none⟩ = some (.slice a n cap) := by rw [cell_of_row w1 _ _ _ _ (0, 0) (obj_on hv0 hb1)]; rfl
  have hlt1 : w.heap.size < w1.heap.size := by have := hb1.size; omega
  have c3 := hE0.cells.2.2.2.2
  have HE0 := Lib.hid hE0
  have HB0 := Lib.hid hB0
  clear hE0 hB0 hv0 hv1 hv2 hvl hb1 hs1 hvb e0 HSo
  go_wp2
  obtain ⟨S0, hS0⟩ : ∃ S0, S0 = w1.heap.size := ⟨_, rfl⟩
  rw [← hS0] at HE0 ⊢
  obtain ⟨W0, hW0⟩ : ∃ W0, W0 = w1.alloc (.cells #[.func (.func 92) XX #[], .func (.func 93) XX #[]] 107) := ⟨_, rfl⟩
  rw [← hW0] at HE0 HB0 ⊢
  clear hS0 hW0 c3 d3 hlt1
  go_loopw [6, 18] (fun _ i wr => ∃ k : Nat, k ≤ n ∧ i = .int .i64 k ∧ Hid (EnB w wr S0 (.func (.func 92) XX #[]) (.func (.func 93) XX #[]) s g c a n cap) ∧ ∃ T, Hid (BxA wr (w.heap.size + 1 + 1) T) ∧ Hid (∀ v : Nat, v < 241 → Rep (SS s g c f k v) (T v))) (fun _ i _ => n - (intOf i).toNat)
  case atStart => exact ⟨0, by omega, rfl, HE0, _, HB0, Lib.hid fun v _ => ss_first v⟩
  case round =>
    obtain ⟨k, hk, rfl, HE, T, HB, HT⟩ := hrel
    by_cases hkn : k < n
    · have hkI : (k : Int) < (n : Int) := by omega
      obtain ⟨b, off, rfl, hb, c1⟩ := (HA.out.on HE.out.be) k hkn
      obtain ⟨⟨g0, g1⟩, m0, m1, m2, m3⟩ := HE.out.cells
      have hok := hGG.out.2 k hkn
      unfold OkG Btw at hok
      obtain ⟨m, h, hm5, HRX, HQ⟩ := HRd.out (f k) hGR.out hok
      have HR1 := Lib.hid HRX
      have HQ1 : Hid (∀ (v mm : Int), Acc s g c (SS s g c f k) (fun _ x => ∃ i, i < m ∧ x = h i) v mm ↔ SS s g c f (k + 1) v mm) := Lib.hid fun v mm => HQ _ v mm
      have HEd := Lib.hid (HE.out.on (W' := wr.drew) (below_drawn wr))
      have HBd := Lib.hid (⟨HB.out.obj⟩ : BxA wr.drew (w.heap.size + 1 + 1) T)
      clear HRX HQ hok
      generalize f k = fk at *
      go_wp2_with fail
      have hlc := load_all (n := 723) HBd.out.obj (cvA_size _)
      have hcs := cvA_size T
      go_region_with (first
        | (rw [Tryd.isAgg112]; simp only [Tryd.sizeOf112, Result.andThen, ↓reduceIte]; (first | rw [hlc] | rw [hlc2]); simp only; rw [Oper.upon_value])
        | (rw [Tryd.sizeOf112]; simp only [Result.andThen, ↓reduceIte, hsc]; rw [Oper.upon_skip])
        | (go_at_call 83; refine (HR1.out _).mono ?_; rintro e w2 ⟨⟨B, c1', rfl, hgs⟩, hb2⟩; have HE2 := Lib.hid (HEd.out.on hb2); have HB2 := Lib.hid (⟨obj_on HBd.out.obj hb2⟩ : BxA w2 (w.heap.size + 1 + 1) T); obtain ⟨⟨g0', g1'⟩, m0', m1', m2', m3'⟩ := HE2.out.cells; have hlc2 := load_all (n := 723) HB2.out.obj (cvA_size _); have HGS := Lib.hid hgs; clear hgs hb2)
        | (go_at_call 82; refine (HAf.out T _ m _ h (SS s g c f k) _ HGS.out hm5 HT.out (fun v m hm => by have := ss_bd hGR.out.2.2.1 hm; omega) hGR.out.2.2).mono ?_; rintro e w3 ⟨⟨T', rfl, hT'⟩, hb3⟩; have hsc := store_all (c' := cvA T') (obj_on HB2.out.obj hb3) counts_size (cvA_size _) (cvA_size _) (cvA_one _); have hcs' := cvA_size T'; have HE3 := Lib.hid ((HE2.out.on hb3).row (cvA T')); have HT3 := Lib.hid hT'; have HO3 := Lib.hid (obj_on HB2.out.obj hb3); clear hb3 hT'))
      all_goals
        go_wp2
        go_roundw
        case rel => exact ⟨k + 1, by omega, by go_num, HE3, T', Lib.hid ⟨setRow_heap _ _ _ _ _ _ HO3.out⟩, Lib.hid fun v hv => rep_iff (HT3.out v hv) fun mm => HQ1.out _ _⟩
        case measure => simp [intOf]; omega
    · obtain rfl : k = n := by omega
      have hlc := load_all (n := 723) (W := wr.alloc (.cells #[.bool false, .int .i64 0, .int .i64 0] 88)) (obj_on HB.out.obj ((Below.refl _ wr).alloc (Nat.le_refl _) _)) (cvA_size _)
      go_wp2
      simp only [Tryd.isAgg112, Tryd.sizeOf112, Result.andThen, ↓reduceIte, hlc]
      rw [Oper.upon_value]
      clear hlc
      go_wp2
      have HIx := Lib.hid (cvA_index T)
      have hb0 : BxT (wr.alloc (.cells #[.bool false, .int .i64 0, .int .i64 0] 88)) wr.heap.size none := ⟨heap_alloc_new wr _⟩
      have HT0 : Hid (∀ v : Nat, v < 241 → Rep (SS s g c f k v) (T v)) := HT
      obtain ⟨r0, r1, r2⟩ := (show wr.cell? ⟨w.heap.size + 1, 0, none⟩ = some (.bool false) ∧ wr.cell? ⟨w.heap.size + 1, 1, none⟩ = some (.int .i64 0) ∧ wr.cell? ⟨w.heap.size + 1, 2, none⟩ = some (.int .i64 0) from ⟨by rw [cell_of_row wr _ _ _ _ (0, 0) HE.out.re]; rfl, by rw [cell_of_row wr _ _ _ _ (0, 0) HE.out.re]; rfl, by rw [cell_of_row wr _ _ _ _ (0, 0) HE.out.re]; rfl⟩)
      have z0 : ∀ j, wr.frozen? ⟨w.heap.size + 1, j, none⟩ = false := fun j => frozen_of_row wr _ j _ _ HE.out.re
      have hrl := obj_lt HE.out.re
      have HBe := Lib.hid HE.out.be
      clear HT HB HE HA HAf HRd
      generalize cvA T = A at *
      go_loopw [9, 30] (fun _ i W => ∃ j : Nat, j ≤ 241 ∧ i = .int .i64 j ∧ ∃ x : After wr, W = x.w ∧ ∃ U, Hid (BxT x.w wr.heap.size U) ∧ Hid (Rep (UpS s g c f k j) U)) (fun _ i _ => 241 - (intOf i).toNat)
      case atStart => exact ⟨0, by omega, rfl, ⟨_, (Below.refl _ wr).alloc (Nat.le_refl _) _⟩, rfl, none, Lib.hid hb0, Lib.hid fun m h => by obtain ⟨v, h1, h2, _⟩ := h; omega⟩
      case round =>
        obtain ⟨j, hj, rfl, x, rfl, U, HU, HR⟩ := hrel
        by_cases hlt : j < 241
        · have hlti : (j : Int) < 241 := by omega
          have hix := HIx.out j hlt
          have HR2 := Lib.hid (up_succ HR.out (HT0.out j hlt))
          have HO := Lib.hid (fun W => or_any U (T j) W)
          obtain ⟨t0, t1, t2⟩ := HU.out.cells
          have htl := obj_lt HU.out.obj
          have hsx := x.out.size
          unfold tyV at HO hix
          generalize T j = tj at *
          have HU1 := Lib.hid (⟨obj_on HU.out.obj ((Below.refl _ x.w).alloc (Nat.le_refl _) (.cells #[.bool (tyc tj), .int .i64 (ty1 tj), .int .i64 (ty2 tj)] 88))⟩ : BxT (x.w.alloc (.cells #[.bool (tyc tj), .int .i64 (ty1 tj), .int .i64 (ty2 tj)] 88)) wr.heap.size U)
          have HV1 := Lib.hid (x.out.alloc hsx (.cells #[.bool (tyc tj), .int .i64 (ty1 tj), .int .i64 (ty2 tj)] 88))
          clear HU HR
          generalize orT U tj = R at *
          go_wp2_with fail
          refine (HO.out _).mono ?_
          rintro e w2 ⟨rfl, hb2⟩
          have HU2 := Lib.hid (⟨obj_on HU1.out.obj hb2⟩ : BxT w2 wr.heap.size U)
          obtain ⟨q0, q1, q2⟩ := HU2.out.cells
          have y0 := HU2.out.free 0
          have y1 := HU2.out.free 1
          have y2 := HU2.out.free 2
          have HV2 := Lib.hid (HV1.out.trans (hb2.mono HV1.out.size))
          clear hb2 HU1 HV1 HO t0 t1 t2
          go_wp2
          go_roundw
          case rel => exact ⟨j + 1, by omega, by go_num, ⟨_, ((HV2.out.setCell (Nat.le_refl _) _).setCell (Nat.le_refl _) _).setCell (Nat.le_refl _) _⟩, rfl, R, Lib.hid (HU2.out.set R), HR2⟩
          case measure => simp [intOf]; omega
        · obtain rfl : j = 241 := by omega
          have HAll := Lib.hid (up_all hGR.out.2.2 HR.out)
          obtain ⟨p1, p2, rfl⟩ := all_some hGG.out HAll.out
          obtain ⟨t0, t1, t2⟩ := (show x.w.cell? ⟨wr.heap.size, 0, none⟩ = some (.bool true) ∧ x.w.cell? ⟨wr.heap.size, 1, none⟩ = some (.int .i64 p1) ∧ x.w.cell? ⟨wr.heap.size, 2, none⟩ = some (.int .i64 p2) from HU.out.cells)
          have z1 := z0 0
          have z2 := z0 1
          have z3 := z0 2
          clear HU HR
          go_wp2
          obtain ⟨w0, w1', w2⟩ := x.set3 (r := w.heap.size + 1) (.bool true) (.int .i64 p1) (.int .i64 p2) ((x.cell _ hrl).trans r0) ((x.cell _ hrl).trans r1) ((x.cell _ hrl).trans r2)
          have hB := HBe.out.trans (x.out.mono HBe.out.size)
          refine bodyPost_ret (v := .agg #[.bool true, .int .i64 p1, .int .i64 p2]) (by simp [results, Tryd.results64, go_sem, w0, w1', w2]) rfl ⟨⟨p1, p2, rfl, HAll.out⟩, ?_⟩
          simp only [← After.set_eq]
          exact ((hB.setCell (by dsimp only; omega) _).setCell (by dsimp only; omega) _).setCell (by dsimp only; omega) _
end Go.Proofs.YtfmoedlnjlkiiaaDoor
