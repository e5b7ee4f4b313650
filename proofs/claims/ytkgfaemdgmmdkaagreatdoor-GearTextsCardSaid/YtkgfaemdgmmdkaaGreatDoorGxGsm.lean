/- Shares as mathematics; rows that are written; the marks of loops in a loop. -/
import Derived.Test.YtkgfaemdgmmdkaaGreatDoorGxGle
namespace Go.Proofs.YtkgfaemdgmmdkaaGreatDoor.Gx
open Go.Proofs.YtkgfaemdgmmdkaaGreatDoor
open Go.RowKit Go.Shelf

/-- Numbers of which a share is taken away at some links. -/
def subU (g : Nat → Int) (s : Int) (L : List Nat) : Nat → Int := fun i => if i ∈ L then g i - s else g i
theorem subU_nil (g : Nat → Int) (s : Int) : subU g s [] = g := by funext i; simp [subU]
theorem subU_new {g : Nat → Int} {s : Int} {L : List Nat} {x : Nat} (h : x ∉ L) : subU g s L x = g x := by simp [subU, h]
theorem subU_snoc {g : Nat → Int} {s : Int} {L : List Nat} {x : Nat} (h : x ∉ L) (i : Nat) : subU g s (L ++ [x]) i = if i = x then g x - s else subU g s L i := by
  unfold subU
  by_cases e : i = x
  · subst e; simp
  · simp [e]
theorem mnU_le (g : Nat → Int) : ∀ (L : List Nat) (x : Int), mnU g x L ≤ x
  | [], x => Int.le_refl _
  | a :: L, x => by
    have := mnU_le g L (min x (g a))
    show mnU g (min x (g a)) L ≤ x
    omega
theorem mnU_all (g : Nat → Int) : ∀ (L : List Nat) (x : Int), ∀ i ∈ L, mnU g x L ≤ g i
  | [], x, i, hi => by cases hi
  | a :: L, x, i, hi => by
    show mnU g (min x (g a)) L ≤ g i
    rcases List.mem_cons.1 hi with rfl | hi
    · have := mnU_le g L (min x (g i)); omega
    · exact mnU_all g L _ i hi
theorem mnU_pos (g : Nat → Int) : ∀ (L : List Nat) (x : Int), 0 ≤ x → (∀ i ∈ L, 0 ≤ g i) → 0 ≤ mnU g x L
  | [], x, h, _ => h
  | a :: L, x, h, k => by
    have h1 := k a (by simp)
    exact mnU_pos g L (min x (g a)) (by omega) (fun i hi => k i (by simp [hi]))
theorem upL_sorted {lf : Nat → Int} {m : Nat} (hv : ∀ k, k < m → lf k < k ∧ -1 ≤ lf k) : ∀ d (x : Int), x < (m : Int) → (upL lf d x).Pairwise (fun i j => j < i) ∧ ∀ k ∈ upL lf d x, (k : Int) ≤ x
  | 0, _, _ => ⟨List.Pairwise.nil, fun k hk => by cases hk⟩
  | d + 1, x, hx => by
    unfold upL
    by_cases h : x < 0
    · rw [if_pos h]; exact ⟨List.Pairwise.nil, fun k hk => by cases hk⟩
    · rw [if_neg h]
      have h1 := hv x.toNat (by omega)
      obtain ⟨p, q⟩ := upL_sorted hv d (lf x.toNat) (by omega)
      refine ⟨List.Pairwise.cons (fun j hj => by have := q j hj; omega) p, fun k hk => ?_⟩
      rcases List.mem_cons.1 hk with rfl | hk
      · omega
      · have := q k hk; omega
theorem upL_new {lf : Nat → Int} {m d : Nat} {x : Int} (hv : ∀ k, k < m → lf k < k ∧ -1 ≤ lf k) (hx : x < (m : Int)) {pre r : List Nat} {y : Nat} (h : upL lf d x = pre ++ y :: r) : y ∉ pre := fun hy => by
  have h1 := (upL_sorted hv d x hx).1
  rw [h, List.pairwise_append] at h1
  exact absurd (h1.2.2 y hy y (by simp)) (by omega)

/-- A step of shares: what is left, and the shares so far. -/
def shS (lf : Nat → Int) (m : Nat) (st : (Nat → Int) × List Int) (e : Nat) : (Nat → Int) × List Int :=
  (subU st.1 (mnU st.1 (st.1 e) (upL lf (m + 1) (e : Nat))) (upL lf (m + 1) (e : Nat)), st.2 ++ [mnU st.1 (st.1 e) (upL lf (m + 1) (e : Nat))])
def shN (lf : Nat → Int) (m : Nat) (g : Nat → Int) (L : List Nat) : (Nat → Int) × List Int := L.foldl (shS lf m) (g, [])
theorem shN_snoc (lf : Nat → Int) (m : Nat) (g : Nat → Int) (L : List Nat) (e : Nat) : shN lf m g (L ++ [e]) = shS lf m (shN lf m g L) e := by unfold shN; rw [List.foldl_append]; rfl
theorem shN_take {lf : Nat → Int} {m : Nat} {g : Nat → Int} {L : List Nat} {k : Nat} (hk : k < L.length) : shN lf m g (L.take (k + 1)) = shS lf m (shN lf m g (L.take k)) (L.getD k 0) := by
  rw [List.take_add_one, List.getElem?_eq_getElem hk]
  simp only [Option.toList_some]
  rw [shN_snoc]
  simp [hk]
theorem shN_len (lf : Nat → Int) (m : Nat) (g : Nat → Int) : ∀ (L : List Nat) (st : (Nat → Int) × List Int), (L.foldl (shS lf m) st).2.length = st.2.length + L.length
  | [], st => rfl
  | e :: L, st => by
    rw [List.foldl_cons, shN_len lf m g L, List.length_cons]
    simp [shS]; omega
/-- Numbers that are loads or 0. -/
def LdOk (m : Nat) (g : Nat → Int) : Prop := ∀ i, i < m → 0 ≤ g i ∧ g i ≤ 1000000
theorem LdOk.share {m : Nat} {g : Nat → Int} (h : LdOk m g) {lf : Nat → Int} (hv : ∀ k, k < m → lf k < k ∧ -1 ≤ lf k) {e : Nat} (he : e < m) :
    0 ≤ mnU g (g e) (upL lf (m + 1) (e : Nat)) ∧ mnU g (g e) (upL lf (m + 1) (e : Nat)) ≤ 1000000 :=
  ⟨mnU_pos g _ _ (h e he).1 (fun i hi => (h i (upL_lt hv _ _ (by omega) i hi)).1), Int.le_trans (mnU_le g _ _) (h e he).2⟩
theorem LdOk.step {m : Nat} {lf : Nat → Int} (hv : ∀ k, k < m → lf k < k ∧ -1 ≤ lf k) {st : (Nat → Int) × List Int} (h : LdOk m st.1) {e : Nat} (he : e < m) : LdOk m (shS lf m st e).1 := fun i hi => by
  show 0 ≤ subU st.1 (mnU st.1 (st.1 e) (upL lf (m + 1) (e : Nat))) (upL lf (m + 1) (e : Nat)) i ∧ subU st.1 (mnU st.1 (st.1 e) (upL lf (m + 1) (e : Nat))) (upL lf (m + 1) (e : Nat)) i ≤ 1000000
  have h1 := h.share hv he
  have h2 := h i hi
  unfold subU
  by_cases hm : i ∈ upL lf (m + 1) (e : Nat)
  · rw [if_pos hm]
    have := mnU_all st.1 _ (st.1 e) i hm
    omega
  · rw [if_neg hm]; exact h2
theorem LdOk.take {m : Nat} {lf : Nat → Int} (hv : ∀ k, k < m → lf k < k ∧ -1 ≤ lf k) {g : Nat → Int} (h : LdOk m g) {L : List Nat} (hL : ∀ e ∈ L, e < m) : ∀ k, k ≤ L.length → LdOk m (shN lf m g (L.take k)).1
  | 0, _ => by simpa [shN] using h
  | k + 1, hk => by
    rw [shN_take (by omega)]
    refine LdOk.step hv (LdOk.take hv h hL k (by omega)) (hL _ ?_)
    rw [List.getD_eq_getElem?_getD, List.getElem?_eq_getElem (by omega)]
    exact List.getElem_mem _
/-- A row of the call's own that is written: its numbers. -/
def GRw (W : World) (B : Nat) (m : Nat) (g : Nat → Int) : Prop := B < W.heap.size ∧ ∀ k, k < m → W.cell? ⟨B, k, none⟩ = some (.int .i64 (g k)) ∧ W.frozen? ⟨B, k, none⟩ = false
theorem GRw.at {W : World} {B m : Nat} {g : Nat → Int} (h : GRw W B m g) : GAt W (some ⟨B, 0, none⟩) m g := fun k hk => ⟨B, 0, rfl, h.1, by rw [Nat.zero_add]; exact (h.2 k hk).1⟩
theorem GRw.same {W W' : World} {B m : Nat} {g : Nat → Int} (h : GRw W B m g) (hs : W.heap.size ≤ W'.heap.size) (e : W'.heap[B]? = W.heap[B]?) : GRw W' B m g :=
  ⟨Nat.lt_of_lt_of_le h.1 hs, fun k hk => ⟨(World.cell?_of_block (a := ⟨B, k, none⟩) e).trans (h.2 k hk).1, (World.frozen?_of_block (a := ⟨B, k, none⟩) e).trans (h.2 k hk).2⟩⟩
theorem GRw.on {W W' : World} {B m : Nat} {g : Nat → Int} (h : GRw W B m g) (hb : Below W.heap.size W W') : GRw W' B m g := h.same hb.size (hb.block B h.1)
theorem GRw.fr {M : Nat → Prop} {W W' : World} {B m : Nat} {g : Nat → Int} (h : GRw W B m g) (hf : Fr M W W') (hM : ¬ M B) : GRw W' B m g := h.same hf.size (hf.same B h.1 hM)
theorem GRw.set {W : World} {B m : Nat} {g : Nat → Int} (h : GRw W B m g) {x : Nat} (u : Int) {g' : Nat → Int} (hg : ∀ k, k < m → g' k = if k = x then u else g k) : GRw (W.setCell ⟨B, x, none⟩ (.int .i64 u)) B m g' := by
  refine ⟨by simpa using h.1, fun k hk => ⟨?_, by simpa using (h.2 k hk).2⟩⟩
  rw [hg k hk]
  by_cases e : k = x
  · subst e
    rw [if_pos rfl]
    exact World.cell?_setCell_same W ⟨B, k, none⟩ _ (h.2 k hk).1
  · rw [if_neg e, World.cell?_setCell_other _ _ _ _ (fun q => e (by cases q; rfl))]
    exact (h.2 k hk).1
/-- Where the marks of the loops lie. -/
def mkD (D : Nat) : Deferred := { target := .collected D, args := #[] }
def MrkOk (B : Nat) (Ds : List Nat) (W : World) : Prop := Ds.Nodup ∧ ∀ D ∈ Ds, B ≤ D ∧ D < W.heap.size ∧ W.heap[D]? = some (.deferred (some []))
theorem MrkOk.nil (B : Nat) (W : World) : MrkOk B [] W := ⟨List.nodup_nil, fun D hD => by cases hD⟩
theorem MrkOk.same {B : Nat} {Ds : List Nat} {W W' : World} (h : MrkOk B Ds W) (hs : W.heap.size ≤ W'.heap.size) (e : ∀ D, B ≤ D → D < W.heap.size → W.heap[D]? = some (.deferred (some [])) → W'.heap[D]? = W.heap[D]?) : MrkOk B Ds W' :=
  ⟨h.1, fun D hD => ⟨(h.2 D hD).1, Nat.lt_of_lt_of_le (h.2 D hD).2.1 hs, (e D (h.2 D hD).1 (h.2 D hD).2.1 (h.2 D hD).2.2).trans (h.2 D hD).2.2⟩⟩
theorem MrkOk.on {B : Nat} {Ds : List Nat} {W W' : World} (h : MrkOk B Ds W) (hb : Below W.heap.size W W') : MrkOk B Ds W' := h.same hb.size (fun D _ hD _ => hb.block D hD)
theorem MrkOk.fr {B : Nat} {Ds : List Nat} {M : Nat → Prop} {W W' : World} (h : MrkOk B Ds W) (hf : Fr M W W') (hM : ∀ D, B ≤ D → D < W.heap.size → W.heap[D]? = some (.deferred (some [])) → ¬ M D) : MrkOk B Ds W' := h.same hf.size (fun D hB hD e => hf.same D hD (hM D hB hD e))
theorem MrkOk.cons {B : Nat} {Ds : List Nat} {W : World} (h : MrkOk B Ds W) {D n : Nat} (hn : ∀ D' ∈ Ds, D' < n) (hD : n ≤ D) (hB : B ≤ D) (e : W.heap[D]? = some (.deferred (some []))) : MrkOk B (D :: Ds) W :=
  ⟨List.nodup_cons.2 ⟨fun hm => by have := hn D hm; omega, h.1⟩, fun D' hD' => by
    rcases List.mem_cons.1 hD' with rfl | hD'
    · exact ⟨hB, (Array.getElem?_eq_some_iff.1 e).1, e⟩
    · exact h.2 D' hD'⟩
theorem leaves_mrk {F : Fence} {n : Nat} {P : Program} {fn : Func} {tmps : Array Value} {R : Ending → World → Prop} : ∀ (Ds : List Nat) (w : World), Ds.Nodup → (∀ D ∈ Ds, w.heap[D]? = some (.deferred (some []))) →
    (∀ W', Fr (fun j => j ∈ Ds) w W' → LeavesInM F n P fn tmps R [] .returning W') → LeavesInM F n P fn tmps R (Ds.map mkD) .returning w
  | [], w, _, _, h => h w (Fr.refl w)
  | D :: Ds, w, hn, hd, h => by
    obtain ⟨h1, h2⟩ := List.nodup_cons.1 hn
    refine ⟨by simp, .inl ⟨D, _, rfl, run_takeDeferred (hd D (by simp)), leaves_mrk Ds _ h2 (fun D' hD' => (World.putObj_heap_other (fun e => h1 (by subst e; exact hD'))).trans (hd D' (by simp [hD']))) fun W' hF => h W' ?_⟩⟩
    exact (((Fr.put w D _).mono fun j _ e => List.mem_cons.2 (.inl e)).then hF (fun j _ hj _ hm => hj (List.mem_cons.2 (.inr hm))))
end Go.Proofs.YtkgfaemdgmmdkaaGreatDoor.Gx
