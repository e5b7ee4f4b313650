/- The program's spans of the minutes of any iterator. -/
import Derived.Test.YtfmoedlnjlkiiaaDoorWds
import Derived.Test.YtfmoedlnjlkiiaaDoorWdk
import Derived.Deep.AppendLies
import Derived.OwnWalkIn
namespace Go.Proofs.YtfmoedlnjlkiiaaDoor
open Go.RowKit Go.Shelf
attribute [local go_sem] Oper.semAt_some

theorem ownsZ_fr {B : Nat} {e : TypeId} {k : Nat} {v : Value} {n : Nat} {xs : List Value} {M : Nat → Prop} {w w' : World} (h : w.ownsRow B e k v n xs) (hf : Fr M w w') (hM : ∀ g o, B ≤ g → w.heap[g]? = some o → o.isCells = true → ¬ M g) : w'.ownsRow B e k v n xs := by
  obtain ⟨h1, h2 | ⟨g, cap, cur, a1, a2, a3, a4⟩⟩ := h
  · exact ⟨h1, .inl h2⟩
  · exact ⟨h1, .inr ⟨g, cap, cur, a1, a2, (hf.same g (Array.getElem?_eq_some_iff.1 a3).1 (hM g _ a2 a3 rfl)).trans a3, a4⟩⟩
theorem ownsZ_cells {B : Nat} {e : TypeId} {k : Nat} {v : Value} {n : Nat} {xs : List Value} {w : World} (h : w.ownsRow B e k v n xs) (he : e ≠ 86) {g : Nat} (hg : v.ownBlock = some g) : ∀ o, w.heap[g]? = some o → o.isCells = true ∧ ¬ StepO o := by
  rcases h with ⟨_, ⟨rfl, _⟩ | ⟨g', cap, cur, rfl, _, a3, _⟩⟩
  · cases hg
  · intro o ho
    cases hg
    rw [a3] at ho
    cases ho
    exact ⟨rfl, fun ⟨_, _, h⟩ => by cases h; exact he rfl⟩
theorem spanNotStep : 38 ≠ 86 := by decide

/-- An iterator of the minutes xs, in every world behind w. -/
def ItOf (w : World) (gf : Nat) (lb : Array Value) (xs : List Nat) (k : Nat) : Prop :=
  (∀ args W, (callFunc gf args).run Tryd.prog W = .ok (.enter gf args) W) ∧
  ∀ (M : Nat → Prop) (W : World), Below w.heap.size w W → (∀ i, M i → w.heap.size ≤ i ∧ i < W.heap.size) →
    ∃ Nx S : _, (∀ (pre : List Nat) (x : Nat), Nx pre x → ∃ r, xs = pre ++ x :: r) ∧ (∀ ys, S ys → ys = xs) ∧ SeqFr StepO Fence.wide 5 Tryd.prog gf lb (fun k : Nat => #[.int .i64 k]) (fun _ => False) M Nx S (fun _ => True) k W

set_option maxRecDepth 100000 in
set_option maxHeartbeats 2000000 in
theorem spans_any (gf : Nat) (lb : Array Value) (xs : List Nat) (k : Nat) (w : World) (hI : ItOf w gf lb xs k) (hx : ∀ x ∈ xs, x < 2000) (hl : xs.length ≤ 2000) :
    Calls Tryd.prog 51 #[.func (.func gf) #[] lb] w fun e w' => (∃ v, e = .returned v ∧ SpRow w' w.heap.size v (spS xs)) ∧ Below w.heap.size w w' := by
  obtain ⟨heg, hI⟩ := hI
  obtain ⟨i0, hi, hz0, hz1, hz2⟩ := info_parts spanInfo
  unfold SpRow
  refine (callsIn_wide (n := 6)).1 ?_
  refine callsIn_of_wp_marks Tryd.func51 rfl trivial ?_ rfl
  simp only [Tryd.ntmps51, List.size_toArray, List.length_cons, List.length_nil, Nat.reduceAdd, Nat.reduceSub, Array.replicate_succ, Array.replicate_zero, List.push_toArray, List.append_toArray, List.nil_append, List.cons_append]
  refine wpIn_wide.2 ?_
  go_wp2
  have B1 : Below w.heap.size w (w.alloc (.cells #[.slice none 0 0] 27)) := by (repeat' (first | (with_reducible exact Below.refl _ _) | (with_reducible assumption) | (with_reducible refine Below.alloc ?_ ?_ _) | (with_reducible refine Below.drew ?_) | (with_reducible refine below_drewN ?_ _) | (with_reducible refine Below.setCell ?_ ?_ _) | (with_reducible refine below_after ?_ ?_ _) | (with_reducible refine below_set ?_) | (with_reducible refine After.size_le _ ?_) | (with_reducible refine size_alloc_le ?_) | (with_reducible refine size_set_le ?_) | (with_reducible refine size_drewN_le ?_) | go_size))
  have er : (w.alloc (.cells #[.slice none 0 0] 27)).cell? ⟨w.heap.size, 0, none⟩ = some (.slice none 0 0) := by simp [go_sem]
  have ef : (w.alloc (.cells #[.slice none 0 0] 27)).frozen? ⟨w.heap.size, 0, none⟩ = false := by simp [go_sem]
  have es : (w.alloc (.cells #[.slice none 0 0] 27)).heap.size = w.heap.size + 1 := by simp
  obtain ⟨W0, hW0⟩ : ∃ W0, w.alloc (.cells #[.slice none 0 0] 27) = W0 := ⟨_, rfl⟩
  rw [hW0] at B1 er ef es ⊢
  clear hW0
  obtain ⟨Nx, S, hNx, hS, hseq⟩ := hI (fun j => j = w.heap.size) W0 B1 (fun i h => by omega)
  refine wpIn_wide (n := 6).1 ?_
  refine wpIn_rangeFunc_fr rfl (by omega) (gf := gf) (lb := lb) rfl trivial heg
    (O := fun _ => False) (M := fun j => j = w.heap.size) (fun _ h => h.elim)
    hseq
    (fun j h => by omega) (fun _ => rfl)
    (fun pre V => (∃ v, V.cell? ⟨w.heap.size, 0, none⟩ = some v ∧ V.frozen? ⟨w.heap.size, 0, none⟩ = false ∧ V.ownsRow (W0.heap.size + 2 + k) 38 2 v (spS pre).length (scv (spS pre))) ∧ Below w.heap.size w V)
    (fun _ _ _ => False)
    (fun pre A A' hs hf => by
      obtain ⟨⟨v, h1, h2, h3⟩, h4⟩ := hs
      have nb : ∀ i, i < W0.heap.size → ¬ OwnM (fun _ => False) W0.heap.size (W0.heap.size + 2 + k) A i := fun i hi h => by
        rcases h with h | ⟨h, _⟩
        · exact h
        · omega
      exact ⟨⟨v, hf.cell (p := ⟨w.heap.size, 0, none⟩) (nb _ (by simp; omega)) h1, (hf.frozen (p := ⟨w.heap.size, 0, none⟩) (nb _ (by simp; omega)) (World.block_lt_of_cell? A _ h1)).trans h2, ownsZ_fr h3 hf (fun g o hg ho hc hM => by
        rcases hM with h | ⟨_, h | ⟨o', h5, h6⟩⟩
        · exact h
        · omega
        · rw [ho] at h5; cases h5; rw [hc] at h6; cases h6)⟩, h4.trans (hf.below h4.size (fun j hj h => by rcases h with h | ⟨h, _⟩; exact h; omega))⟩)
    (fun _ _ _ _ hs _ => hs)
    ⟨⟨_, er, ef, World.ownsRow_nil _ _ _ _⟩, B1⟩
    (fun x a' V => a' = { tmps := #[.func (.func gf) #[] lb, undef, .slice none 0 0, .pointer (some ⟨w.heap.size, 0, none⟩), .int .i64 x, undef, .func (.func gf) #[] lb, .int .i64 x, undef, undef, undef, undef, undef, undef, undef, undef, undef, undef, undef, undef, undef, undef, undef, undef, undef, undef, undef, undef, undef, undef, undef, undef, undef, undef, undef, undef, undef, undef, undef], defers := [] })
    (fun x a' _ A A' hs hf => hs)
    ?assign ?body ?done ?stop
  case assign =>
    rintro l' pre x V K hnx hI hsz hK
    gi_wp2
    exact hK _ _ (Fr.refl V) hI rfl
  case body =>
    rintro l' pre x a' V ⟨r, hr⟩ hnx ⟨⟨v, h1, h2, h3⟩, hB⟩ rfl hsz
    obtain ⟨rst, exs⟩ := hNx pre x hnx
    have hx2 : x < 2000 := hx x (by rw [exs]; simp)
    have hlp : pre.length ≤ 2000 := by have := congrArg List.length exs; simp at this; omega
    have hxi : (x : Int) < 2000 := by omega
    have hle := Nat.le_trans (spS_len pre) hlp
    have HS : Hid (spS (pre ++ [x]) = addS (spS pre) x) := Lib.hid (spS_snoc pre x)
    have HB := Lib.hid hB
    have hbV : w.heap.size < V.heap.size := World.block_lt_of_cell? V _ h1
    clear hB exs hnx
    generalize spS pre = L at *
    rcases nil_or_snoc L with rfl | ⟨L', ⟨p, y⟩, rfl⟩
    · rw [addS_nil] at HS
      obtain ⟨a, cap, rfl⟩ := ownsR_shape h3
      have HOw := Lib.hid h3
      clear h3
      gi_wp2_with (gi_at_builtin; refine wpListIn_append_own _ rfl _ _ 27 rfl (W0.heap.size + 2 + k) 38 i0 (.agg #[.int .i64 0, .int .i64 0]) 2 16 Tryd.underlying27 hi hz0 hz1 hz2 rfl (by decide) _ _ _ rfl (HOw.out.alloc _) ⟨V.heap.size, 0, none⟩ 1 1 [.int .i64 x, .int .i64 ((x : Int) + 1)] rfl rfl (World.news_of_block (cs := #[.int .i64 x, .int .i64 ((x : Int) + 1)]) (t := 38) (fr := (0, 0)) (heap_alloc_new V _)) (by simp [Value.oneCell']) (by unfold maxLen; omega) (by omega) (by simp; omega) ?_; intro v' w3 hown' hgrow _; obtain ⟨g', cap', rfl⟩ := Go.Joins.ownsRow_form hown' (by omega); have F3 : Fr (fun g => W0.heap.size + 2 + k ≤ g) V w3 := ((Fr.refl V).alloc _).grown hgrow (fun j e => .inl (HOw.out.lt j e).1); have hc1 := F3.cell (p := ⟨w.heap.size, 0, none⟩) (by simp; omega) h1; have hf1 := (F3.frozen (p := ⟨w.heap.size, 0, none⟩) (by simp; omega) (by simp; omega)).trans h2)
      have FV : Fr (RndM StepO (fun j => j = w.heap.size) (W0.heap.size + 2 + k) V) V w3 := ((Fr.refl V).alloc _).grown hgrow (fun j e => .inl (.inr ⟨(HOw.out.lt j e).1, fun o ho => ownsZ_cells HOw.out spanNotStep e o ho⟩))
      refine ⟨FV.setCell (p := ⟨w.heap.size, 0, none⟩) (.inl (.inl rfl)) _, ⟨_, World.cell?_setCell_same _ _ _ hc1, by simpa using hf1, ?_⟩, (HB.out.trans (F3.below (by omega) (fun i h => by omega))).setCell (Nat.le_refl _) _⟩
      have hown2 := ownsZ_fr hown' ((Fr.refl w3).setCell (M := fun g => g = w.heap.size) (p := ⟨w.heap.size, 0, none⟩) (.inl rfl) (.slice (some ⟨g', 0, none⟩) (([] : List (Int × Int)).length + 1) cap')) (fun g o hg _ _ hM => by omega)
      rw [HS.out]
      simpa [scv] using hown2
    · rw [addS_last] at HS
      have hlen : (L' ++ [(p, y)]).length = L'.length + 1 := by simp
      rw [hlen] at h3 hle
      obtain ⟨g', cap, rfl⟩ := Go.Joins.ownsRow_form h3 (by omega)
      have e1 := h3.cellAt (L'.length * 2 + 1) (by omega)
      rw [scv_at] at e1
      have f1 := h3.frozenAt (L'.length * 2 + 1)
      have hg1 := h3.lt g' rfl
      have HOw := Lib.hid h3
      have hpos : (0 : Int) < ((L'.length + 1 : Nat) : Int) := by omega
      clear h3 hlen
      by_cases hy : y = x
      · subst hy
        rw [if_pos rfl] at HS
        gi_wp2
        have hst := (HOw.out.stored (L'.length * 2 + 1) (.int .i64 ((x : Int) + 1))).1
        rw [scv_last] at hst
        have FV : Fr (RndM StepO (fun j => j = w.heap.size) (W0.heap.size + 2 + k) V) V (V.setCell ⟨g', L'.length * 2 + 1, none⟩ (.int .i64 ((x : Int) + 1))) := (Fr.refl V).setCell (p := ⟨g', L'.length * 2 + 1, none⟩) (.inl (.inr ⟨hg1.1, fun o ho => ownsZ_cells HOw.out spanNotStep rfl o ho⟩)) _
        have F1 : Fr (fun j => j = g') V (V.setCell ⟨g', L'.length * 2 + 1, none⟩ (.int .i64 ((x : Int) + 1))) := (Fr.refl (M := fun j => j = g') V).setCell (p := ⟨g', L'.length * 2 + 1, none⟩) (.inl rfl) _
        refine ⟨FV, ⟨_, F1.cell (p := ⟨w.heap.size, 0, none⟩) (by simp; omega) h1, (F1.frozen (p := ⟨w.heap.size, 0, none⟩) (by simp; omega) hbV).trans h2, ?_⟩, HB.out.setCell (by simp; omega) _⟩
        rw [HS.out]
        simpa using hst
      · rw [if_neg hy] at HS
        have hy' : (y == (x : Int)) = false := beq_eq_false_iff_ne.2 hy
        gi_wp2_with (gi_at_builtin; refine wpListIn_append_own _ rfl _ _ 27 rfl (W0.heap.size + 2 + k) 38 i0 (.agg #[.int .i64 0, .int .i64 0]) 2 16 Tryd.underlying27 hi hz0 hz1 hz2 rfl (by decide) _ _ _ rfl (HOw.out.alloc _) ⟨V.heap.size, 0, none⟩ 1 1 [.int .i64 x, .int .i64 ((x : Int) + 1)] rfl rfl (World.news_of_block (cs := #[.int .i64 x, .int .i64 ((x : Int) + 1)]) (t := 38) (fr := (0, 0)) (heap_alloc_new V _)) (by simp [Value.oneCell']) (by unfold maxLen; omega) (by omega) (by simp; omega) ?_; intro v' w3 hown' hgrow _; obtain ⟨g', cap', rfl⟩ := Go.Joins.ownsRow_form hown' (by omega); have F3 : Fr (fun g => W0.heap.size + 2 + k ≤ g) V w3 := ((Fr.refl V).alloc _).grown hgrow (fun j e => .inl (HOw.out.lt j e).1); have hc1 := F3.cell (p := ⟨w.heap.size, 0, none⟩) (by simp; omega) h1; have hf1 := (F3.frozen (p := ⟨w.heap.size, 0, none⟩) (by simp; omega) (by simp; omega)).trans h2)
        have FV : Fr (RndM StepO (fun j => j = w.heap.size) (W0.heap.size + 2 + k) V) V w3 := ((Fr.refl V).alloc _).grown hgrow (fun j e => .inl (.inr ⟨(HOw.out.lt j e).1, fun o ho => ownsZ_cells HOw.out spanNotStep e o ho⟩))
        refine ⟨FV.setCell (p := ⟨w.heap.size, 0, none⟩) (.inl (.inl rfl)) _, ⟨_, World.cell?_setCell_same _ _ _ hc1, by simpa using hf1, ?_⟩, (HB.out.trans (F3.below (by omega) (fun i h => by omega))).setCell (Nat.le_refl _) _⟩
        have hown2 := ownsZ_fr hown' ((Fr.refl w3).setCell (M := fun g => g = w.heap.size) (p := ⟨w.heap.size, 0, none⟩) (.inl rfl) (.slice (some ⟨g', 0, none⟩) ((L'.length + 1) + 1) cap')) (fun g o hg _ _ hM => by omega)
        rw [HS.out, scv_snoc]
        simpa using hown2
  case done =>
    rintro D ys V hD hys ⟨⟨v, h1, h2, h3⟩, hB⟩ hK
    obtain rfl := hS ys hys
    have H3 := Lib.hid h3
    have hDV : D < V.heap.size := (Array.getElem?_eq_some_iff.1 hK).1
    have HB := Lib.hid hB
    have hVs := hB.size
    clear h3 hB h2
    gi_wp2
    go_wp2
    refine ⟨by simp, .inl ⟨_, _, rfl, run_takeDeferred hK, ?_⟩⟩
    have fp : Fr (fun j => j = D) V (V.putObj D (.deferred none)) := Fr.put V D _
    refine ⟨_, results_tmp rfl _ _ _, ⟨v, rfl, ownsZ_fr (Go.Joins.ownsRow_le H3.out (by omega)) fp (fun g o hg ho hc hM => ?_)⟩, HB.out.trans (fp.below hVs (fun j h h' => by omega))⟩
    subst hM
    rw [hK] at ho
    cases ho
    cases hc
  case stop =>
    rintro D c pre X _ _ h _
    exact h.elim
end Go.Proofs.YtfmoedlnjlkiiaaDoor
