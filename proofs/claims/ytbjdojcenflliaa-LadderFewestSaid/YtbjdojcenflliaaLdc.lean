/- The counts' map; least. -/
import Derived.Test.YtbjdojcenflliaaLdu
import Derived.Maps.Own
import Derived.Maps.OwnIn
import Derived.Maps.OwnSet
import Derived.Maps.Views
namespace Go.Proofs.Ytbjdojcenflliaa
open Go.RowKit Go.Shelf Go.Maps
attribute [local go_sem] Oper.semAt_some

theorem lawI : Keyed Try.prog 3 := int_keyed Try.underlying3
theorem zeroI (w : World) : (zeroValue 3).run Try.prog w = .ok (.int .i64 0) w := by kernel_rfl
theorem mapOn3 {H : Type} {P : Program} {k : TypeId} {R : Value → Option (DataW H × List MemPlace)} {w W : World} {b n : Nat} {D : DataW H} (h : w.ownsMap P k R b n D) (hb : Below w.heap.size w W) : W.ownsMap P k R b n D := by
  have hl := h.lt
  obtain ⟨es, clock, h1, F, hs, hD⟩ := h
  exact ⟨es, clock, (hb.block b hl).trans h1, F, hs, hD⟩
theorem mapFr3 {H : Type} {P : Program} {k : TypeId} {R : Value → Option (DataW H × List MemPlace)} {M : Nat → Prop} {w W : World} {b n : Nat} {D : DataW H} (h : w.ownsMap P k R b n D) (hf : Fr M w W) (hM : ¬ M b) : W.ownsMap P k R b n D := by
  have hl := h.lt
  obtain ⟨es, clock, h1, F, hs, hD⟩ := h
  exact ⟨es, clock, (hf.same b hl hM).trans h1, F, hs, hD⟩
/-- A map of counts. -/
def Ic (W : World) (B t : Nat) (c : Nat → Nat) : Prop := ∃ D : DataW Unit, W.ownsMap Try.prog 3 (plainElem Try.prog 3) B t D ∧ IsMap D ∧ (∀ k : Nat, D.atKey (.int .i64 (k : Nat)) (.lit (.int .i64 0)) = .lit (.int .i64 (c k : Nat))) ∧ ∀ k : Nat, Maps.has D (.int .i64 (k : Nat)) = decide (c k ≠ 0)
theorem Ic.on {w W : World} {B t : Nat} {c : Nat → Nat} (h : Ic w B t c) (hb : Below w.heap.size w W) : Ic W B t c := by
  obtain ⟨D, h1, h2⟩ := h
  exact ⟨D, mapOn3 h1 hb, h2⟩
theorem Ic.fr {M : Nat → Prop} {w W : World} {B t : Nat} {c : Nat → Nat} (h : Ic w B t c) (hf : Fr M w W) (hM : ¬ M B) : Ic W B t c := by
  obtain ⟨D, h1, h2⟩ := h
  exact ⟨D, mapFr3 h1 hf hM, h2⟩
theorem Ic.lt {w : World} {B t : Nat} {c : Nat → Nat} (h : Ic w B t c) : B < w.heap.size := by obtain ⟨D, h1, _⟩ := h; exact h1.lt
theorem ic_made (w : World) : Ic (w.alloc (.map #[] 0)) w.heap.size 0 (fun _ => 0) := ⟨.map [], World.ownsMap_made _ _ _ _, isMap_empty, fun _ => rfl, fun _ => rfl⟩
theorem key_int (k : Nat) (h : k ≤ 100000) : keyOf Try.prog 3 (.int .i64 (k : Nat)) = some (.int .i64 (k : Nat)) := by
  exact Maps.keyOf_int_mk Try.underlying3 (WalkArith.wf_i64 (by omega))
set_option maxRecDepth 100000 in
set_option maxHeartbeats 4000000 in
theorem least_any (a : Option Addr) (n cap : Nat) (hg : Nat → Int) (us : Nat → Bool) (fi st la ht : Int) (B t i : Nat) (c : Nat → Nat) (w : World) (hA : JtAt w a n hg us) (hC : Ic w B t c) (hn : n ≤ 1000) (hi : i ≤ 2000) (hc : ∀ k, c k ≤ 1000) :
    Calls Try.prog 72 #[.agg #[.slice a n cap, .int .i64 fi, .int .i64 st, .int .i64 la], .map (some B), .int .i64 (i : Nat), .int .i64 ht] w fun e w' => e = .returned (.int .i64 (lsL c (upT hg us n ht i) : Nat)) ∧ Below w.heap.size w w' := by
  have HA := Lib.hid hA
  have HC := Lib.hid hC
  have HU := Lib.hid (fun W => upTo_mk (.slice a n cap) fi st la (i : Nat) ht W)
  have hBw := hC.lt
  clear hA hC
  refine (callsIn_wide (n := 6)).1 ?_
  refine callsIn_of_wp_marks Try.func72 rfl trivial ?_ rfl
  simp only [Try.ntmps72, List.size_toArray, List.length_cons, List.length_nil, Nat.reduceAdd, Nat.reduceSub, Array.replicate_succ, Array.replicate_zero, List.push_toArray, List.append_toArray, List.nil_append, List.cons_append]
  refine wpIn_wide.2 ?_
  go_wp2_with (go_at_call 78; refine (HU.out _).mono ?_; rintro e w2 ⟨rfl, rfl⟩)
  obtain ⟨W0, hW0⟩ : ∃ W0, ((((((w.alloc (.cells #[.slice a n cap, .int .i64 fi, .int .i64 st, .int .i64 la] 60)).alloc (.cells #[.map (some B)] 81)).alloc (.cells #[.int .i64 0] 3)).alloc (.cells #[.slice a n cap, .int .i64 fi, .int .i64 st, .int .i64 la] 60)).alloc (.cells #[.int .i64 (i : Nat)] 3)).alloc (.cells #[.int .i64 ht] 3)) = W0 := ⟨_, rfl⟩
  have b0 : Below w.heap.size w W0 := by rw [← hW0]; (repeat' (first | (with_reducible exact Below.refl _ _) | (with_reducible assumption) | (with_reducible refine Below.alloc ?_ ?_ _) | (with_reducible refine Below.drew ?_) | (with_reducible refine below_drewN ?_ _) | (with_reducible refine Below.setCell ?_ ?_ _) | (with_reducible refine below_after ?_ ?_ _) | (with_reducible refine below_set ?_) | (with_reducible refine After.size_le _ ?_) | (with_reducible refine size_alloc_le ?_) | (with_reducible refine size_set_le ?_) | (with_reducible refine size_drewN_le ?_) | go_size))
  have eb : W0.cell? ⟨w.heap.size + 1, 0, none⟩ = some (.map (some B)) := by rw [← hW0]; simp [go_sem]
  have el : W0.cell? ⟨w.heap.size + 1 + 1, 0, none⟩ = some (.int .i64 0) := by rw [← hW0]; simp [go_sem]
  have fl : W0.frozen? ⟨w.heap.size + 1 + 1, 0, none⟩ = false := by rw [← hW0]; simp [go_sem]
  have ef : W0.cell? ⟨w.heap.size + 1 + 1 + 1 + 1, 0, none⟩ = some (.int .i64 (i : Nat)) := by rw [← hW0]; simp [go_sem]
  have eh : W0.cell? ⟨w.heap.size + 1 + 1 + 1 + 1 + 1, 0, none⟩ = some (.int .i64 ht) := by rw [← hW0]; simp [go_sem]
  have s0 : W0.heap.size = w.heap.size + 6 := by rw [← hW0]; simp
  have er : RtB W0 (w.heap.size + 1 + 1 + 1) (.slice a n cap) fi st la := by
    rw [← hW0]
    refine ⟨by simp, by simp [go_sem], by simp [go_sem], by simp [go_sem], by simp [go_sem], fun o => by simp [go_sem]⟩
  have hA0 := HA.out.on b0
  have hab : ∀ b off, a = some ⟨b, off, none⟩ → 0 < n → ¬ b = w.heap.size + 1 + 1 := fun b off e h => by
    obtain ⟨b', off', e', h1, _⟩ := HA.out 0 h
    rw [e] at e'; cases e'; omega
  rw [hW0]
  clear hW0 HU
  refine wpIn_wide (n := 6).1 ?_
  refine wpIn_rangeFunc_fr rfl (by omega) (gf := 82) (lb := #[.pointer (some ⟨w.heap.size + 1 + 1 + 1 + 1, 0, none⟩), .pointer (some ⟨w.heap.size + 1 + 1 + 1, 0, none⟩), .pointer (some ⟨w.heap.size + 1 + 1 + 1 + 1 + 1, 0, none⟩)]) rfl trivial (enters_of Try.func82 (by kernel_rfl) rfl)
    (O := fun _ => False) (M := fun j => j = w.heap.size + 1 + 1) (fun j h => h.elim)
    (upTo1_fr 5 (by omega) (w.heap.size + 1 + 1 + 1 + 1) (w.heap.size + 1 + 1 + 1 + 1 + 1) (w.heap.size + 1 + 1 + 1) a n cap hg us fi st la _ W0 (by omega) (by omega) (by omega) hab hn i ht hi ef eh er hA0)
    (fun j h => by omega) (fun _ => rfl)
    (fun pre V => (V.cell? ⟨w.heap.size + 1 + 1, 0, none⟩ = some (.int .i64 (lsL c pre : Nat)) ∧ V.frozen? ⟨w.heap.size + 1 + 1, 0, none⟩ = false ∧ V.cell? ⟨w.heap.size + 1, 0, none⟩ = some (.map (some B))) ∧ Below w.heap.size w V)
    (fun _ _ _ => False)
    (fun pre A A' hs hf => by
      obtain ⟨⟨h1, h2, h3⟩, h4⟩ := hs
      have nb : ∀ j, j < w.heap.size + 6 → ¬ OwnM (fun _ => False) W0.heap.size (W0.heap.size + 2 + 0) A j := fun j hj h => by
        rcases h with h | h
        · exact h
        · have := h.1; omega
      have l1 := World.block_lt_of_cell? A _ h1
      exact ⟨⟨hf.cell (p := ⟨w.heap.size + 1 + 1, 0, none⟩) (nb _ (by dsimp only; omega)) h1, (hf.frozen (p := ⟨w.heap.size + 1 + 1, 0, none⟩) (nb _ (by dsimp only; omega)) l1).trans h2, hf.cell (p := ⟨w.heap.size + 1, 0, none⟩) (nb _ (by dsimp only; omega)) h3⟩, h4.trans (hf.below h4.size (fun j hj => nb j (by omega)))⟩)
    (fun _ _ _ _ hs _ => hs)
    ⟨⟨el, fl, eb⟩, b0⟩
    (fun x a' (_ : World) => a' = { tmps := #[.agg #[.slice a n cap, .int .i64 fi, .int .i64 st, .int .i64 la], .map (some B), .int .i64 (i : Nat), .int .i64 ht, .pointer (some ⟨w.heap.size, 0, none⟩), .pointer (some ⟨w.heap.size + 1, 0, none⟩), undef, undef, .int .i64 0, .pointer (some ⟨w.heap.size + 1 + 1, 0, none⟩), .int .i64 (x : Nat), undef, undef, .agg #[.slice a n cap, .int .i64 fi, .int .i64 st, .int .i64 la], .int .i64 (i : Nat), .int .i64 ht, .func (.func 82) #[] #[.pointer (some ⟨w.heap.size + 1 + 1 + 1 + 1, 0, none⟩), .pointer (some ⟨w.heap.size + 1 + 1 + 1, 0, none⟩), .pointer (some ⟨w.heap.size + 1 + 1 + 1 + 1 + 1, 0, none⟩)], .int .i64 (x : Nat), undef, undef, undef, undef, undef, undef, undef, undef, undef, undef, undef, undef, undef, undef, undef, undef, undef, undef], defers := [] })
    (fun x a' _ A A' hs hf => hs)
    ?assign ?body ?done ?stop
  case assign =>
    rintro l' pre x V K hnx hI hsz hK
    gi_wp2
    exact hK _ _ (Fr.refl V) hI rfl
  case body =>
    rintro l' pre x a' V ⟨r, hr⟩ ⟨rst, exs⟩ ⟨⟨h1, h2, h3⟩, hB⟩ rfl hsz
    have hx := upT_of (show x ∈ upT hg us n ht i by rw [exs]; simp)
    obtain ⟨D, hD1, hD2, hD3, hD4⟩ := HC.out.on hB
    have hkey := key_int x (by omega)
    have HB := Lib.hid hB
    have HD := Lib.hid hD1
    have hcx := hc x
    have HSn := Lib.hid (lsL_snoc c pre x)
    have hat0 := hD3 x
    have hhas0 := hD4 x
    have HPut := Lib.hid (fun (m : Nat) (a2 : Act) (hm : lsS c (lsL c pre) x = m) => (show frPost NoZ3 (fun j => j = w.heap.size + 1 + 1) (W0.heap.size + 2 + 0) (fun pre V => (V.cell? ⟨w.heap.size + 1 + 1, 0, none⟩ = some (.int .i64 (lsL c pre : Nat)) ∧ V.frozen? ⟨w.heap.size + 1 + 1, 0, none⟩ = false ∧ V.cell? ⟨w.heap.size + 1, 0, none⟩ = some (.map (some B))) ∧ Below w.heap.size w V) (fun _ _ _ => False) (pre ++ [x]) V .normal a2 (V.setCell ⟨w.heap.size + 1 + 1, 0, none⟩ (.int .i64 (m : Nat))) from
      ⟨(Fr.refl V).setCell (.inl (.inl rfl)) _, ⟨by rw [lsL_snoc, hm]; exact World.cell?_setCell_same _ _ _ h1, by rw [World.frozen?_setCell]; exact h2, ((Fr.refl (M := fun j => j = w.heap.size + 1 + 1) V).setCell (p := ⟨w.heap.size + 1 + 1, 0, none⟩) (.inl rfl) _).cell (p := ⟨w.heap.size + 1, 0, none⟩) (by simp) h3⟩, hB.setCell (show w.heap.size ≤ w.heap.size + 1 + 1 by omega) _⟩))
    have HKeep := Lib.hid (fun (a2 : Act) (hm : lsS c (lsL c pre) x = lsL c pre) => (show frPost NoZ3 (fun j => j = w.heap.size + 1 + 1) (W0.heap.size + 2 + 0) (fun pre V => (V.cell? ⟨w.heap.size + 1 + 1, 0, none⟩ = some (.int .i64 (lsL c pre : Nat)) ∧ V.frozen? ⟨w.heap.size + 1 + 1, 0, none⟩ = false ∧ V.cell? ⟨w.heap.size + 1, 0, none⟩ = some (.map (some B))) ∧ Below w.heap.size w V) (fun _ _ _ => False) (pre ++ [x]) V .normal a2 V from
      ⟨Fr.refl V, ⟨by rw [lsL_snoc, hm]; exact h1, h2, h3⟩, hB⟩))
    clear hB exs rst hD1 hD2 hD3 hD4
    gi_wp2_with (gi_at_lookup; refine wpListIn_lookup_own_ok_int _ rfl _ _ 81 rfl 3 3 .i64 lawI Try.underlying81 Try.underlying3 (zeroI _) B t D rfl HD.out _ _ rfl hkey ?_; intro cc hat hwc; (obtain rfl : ((c x : Nat) : Int) = cc := (by rw [hat0] at hat; simpa using hat)); clear hat hwc)
    all_goals
      first
        | exact HPut.out _ _ (by unfold lsS; rw [if_pos ⟨by assumption, .inl (by assumption)⟩])
        | exact HPut.out _ _ (by unfold lsS; rw [if_pos ⟨by assumption, .inr (by simp_all)⟩])
        | exact HKeep.out _ (by unfold lsS; rw [if_neg (by simp_all; try omega)])
  case done =>
    rintro D ys V hD rfl ⟨⟨h1, h2, h3⟩, hB⟩ hK
    have HB := Lib.hid hB
    have HKd := Lib.hid hK
    clear hB hK h2 h3
    gi_wp2
    go_wp2
    refine ⟨by simp, .inl ⟨_, _, rfl, run_takeDeferred HKd.out, ?_⟩⟩
    exact ⟨_, results_tmp rfl _ _ _, rfl, HB.out.trans ((Fr.put V D (.deferred none)).below HB.out.size (fun j h h' => by omega))⟩
  case stop =>
    rintro D c pre X _ _ h _
    exact h.elim
end Go.Proofs.Ytbjdojcenflliaa
