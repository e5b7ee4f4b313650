/- The narrowest strip as the reference finds it: its loops' states. -/
import Derived.Test.YtdhobjflfhijjaaRworstb
import Derived.Test.YtdhobjflfhijjaaBend
namespace Go.Proofs.Ytdhobjflfhijjaa
open Go.RowKit

abbrev St4 := Int × Int × Int × Int
def stOf (ps : List (Int × Int)) (x : Nat × Nat) : St4 := (prB ps x, prD ps x, prLo ps x, prHi ps x)
def stStep (ps : List (Int × Int)) (st : St4) (x : Nat × Nat) : St4 := if st.2.1 = 0 ∨ (prHi ps x - prLo ps x) * st.2.1 < (st.2.2.2 - st.2.2.1) * prD ps x then stOf ps x else st
def nwTo (ps : List (Int × Int)) (L : List (Nat × Nat)) : St4 := L.foldl (stStep ps) (0, 0, 0, 0)
theorem nwTo_snoc (ps : List (Int × Int)) (L : List (Nat × Nat)) (x : Nat × Nat) : nwTo ps (L ++ [x]) = stStep ps (nwTo ps L) x := by simp [nwTo]
theorem prsK_nil (i : Nat) : prsK i (i + 1) = [] := by simp [prsK]
theorem prsK_succ {i k : Nat} (h : i + 1 ≤ k) : prsK i (k + 1) = prsK i k ++ [(i, k)] := by
  unfold prsK
  rw [show k + 1 - (i + 1) = (k - (i + 1)) + 1 by omega, List.range'_1_concat]
  simp [show i + 1 + (k - (i + 1)) = k by omega]
theorem prsI_succ (n i : Nat) : prsI n (i + 1) = prsI n i ++ prsK i n := by
  unfold prsI
  rw [List.range'_1_concat]
  simp

/-- The state is none or a strip of a pair that has come. -/
theorem nwTo_mem (ps : List (Int × Int)) : ∀ L : List (Nat × Nat), nwTo ps L = (0, 0, 0, 0) ∨ ∃ x ∈ L, nwTo ps L = stOf ps x := by
  suffices h : ∀ (L : List (Nat × Nat)) (st : St4), L.foldl (stStep ps) st = st ∨ ∃ x ∈ L, L.foldl (stStep ps) st = stOf ps x from fun L => h L _
  intro L
  induction L with
  | nil => exact fun _ => .inl rfl
  | cons x L ih =>
    intro st
    rw [List.foldl_cons]
    rcases ih (stStep ps st x) with h | ⟨y, hy, h⟩
    · rw [h]
      unfold stStep
      split
      · exact .inr ⟨x, by simp, rfl⟩
      · exact .inl rfl
    · exact .inr ⟨y, by simp [hy], h⟩

/-- .. and behind m pairs, that of the best of them. -/
theorem nwTo_best {ps : List (Int × Int)} (hG : GoodPts ps) : ∀ m, m ≤ (prs ps.length).length → 0 < m →
    nwTo ps ((prs ps.length).take m) = stOf ps (prAt (prs ps.length) (bestTo (fun i j => cmpP ps (prAt (prs ps.length) i) (prAt (prs ps.length) j)) m))
  | 0, _, h => absurd h (by omega)
  | m + 1, hm, _ => by
    have hm' : m < (prs ps.length).length := by omega
    rw [List.take_succ_eq_append_getElem hm', nwTo_snoc]
    have hx : (prs ps.length)[m] = prAt (prs ps.length) m := by
      unfold prAt
      rw [List.getD_eq_getElem?_getD, List.getElem?_eq_getElem hm']
      rfl
    rw [hx]
    rcases Nat.eq_zero_or_pos m with rfl | h0
    · rw [List.take_zero]
      have e : nwTo ps [] = (0, 0, 0, 0) := rfl
      have e2 : bestTo (fun i j => cmpP ps (prAt (prs ps.length) i) (prAt (prs ps.length) j)) (0 + 1) = 0 := by unfold bestTo; split <;> simp [bestTo]
      rw [e, e2]
      unfold stStep
      rw [if_pos (.inl rfl)]
    · rw [nwTo_best hG m (by omega) h0]
      have hb := bestTo_lt (fun i j => cmpP ps (prAt (prs ps.length) i) (prAt (prs ps.length) j)) m h0
      have hd := prD_pos hG (prAt_mem (ts := prs ps.length) (i := bestTo (fun i j => cmpP ps (prAt (prs ps.length) i) (prAt (prs ps.length) j)) m) (by omega))
      have e : bestTo (fun i j => cmpP ps (prAt (prs ps.length) i) (prAt (prs ps.length) j)) (m + 1) = if 0 < cmpP ps (prAt (prs ps.length) m) (prAt (prs ps.length) (bestTo (fun i j => cmpP ps (prAt (prs ps.length) i) (prAt (prs ps.length) j)) m)) then m else bestTo (fun i j => cmpP ps (prAt (prs ps.length) i) (prAt (prs ps.length) j)) m := rfl
      rw [e]
      generalize bestTo (fun i j => cmpP ps (prAt (prs ps.length) i) (prAt (prs ps.length) j)) m = q at *
      have st (y x : Nat × Nat) : stStep ps (stOf ps y) x = if prD ps y = 0 ∨ (prHi ps x - prLo ps x) * prD ps y < (prHi ps y - prLo ps y) * prD ps x then stOf ps x else stOf ps y := rfl
      rw [st]
      by_cases hc : (prHi ps (prAt (prs ps.length) m) - prLo ps (prAt (prs ps.length) m)) * prD ps (prAt (prs ps.length) q) < (prHi ps (prAt (prs ps.length) q) - prLo ps (prAt (prs ps.length) q)) * prD ps (prAt (prs ps.length) m)
      · rw [if_pos (Or.inr hc), if_pos (cmpP_pos.2 hc)]
      · rw [if_neg (fun h => h.elim (fun h => by omega) hc), if_neg (fun h => hc (cmpP_pos.1 h))]
theorem nwTo_all {ps : List (Int × Int)} (hG : GoodPts ps) (h2 : 2 ≤ ps.length) : nwTo ps (prs ps.length) = stOf ps (bestPr ps) := by
  have := nwTo_best hG (prs ps.length).length (Nat.le_refl _) (prs_ne h2)
  rwa [List.take_length] at this

theorem prsI_sub {n i : Nat} {x : Nat × Nat} (hi : i ≤ n) (hx : x ∈ prsI n i) : x ∈ prs n := by
  unfold prs prsI at *
  simp only [List.mem_flatMap, List.mem_range'_1] at *
  obtain ⟨a, h1, h2⟩ := hx
  exact ⟨a, by omega, h2⟩
theorem prsK_sub {n i k : Nat} {x : Nat × Nat} (_hi : i < n) (hk : k ≤ n) (hx : x ∈ prsK i k) : x ∈ prs n := by
  rw [prs_mem]
  unfold prsK at hx
  simp only [List.mem_map, List.mem_range'_1] at hx
  obtain ⟨c, hc, rfl⟩ := hx
  dsimp only
  omega

/-- The numbers of the state are small. -/
theorem nwTo_bd {ps : List (Int × Int)} (hG : GoodPts ps) {L : List (Nat × Nat)} (hL : ∀ x ∈ L, x ∈ prs ps.length) :
    0 ≤ (nwTo ps L).2.1 ∧ (nwTo ps L).2.1 ≤ 200000 ∧ -6000000000 ≤ (nwTo ps L).2.2.1 ∧ (nwTo ps L).2.2.1 ≤ 6000000000 ∧ -6000000000 ≤ (nwTo ps L).2.2.2 ∧ (nwTo ps L).2.2.2 ≤ 6000000000 := by
  rcases nwTo_mem ps L with h | ⟨x, hx, h⟩
  · rw [h]; decide
  · have h1 := pr_bd hG (hL x hx)
    have h2 := pr_val hG (hL x hx)
    rw [h]
    unfold stOf
    dsimp only
    omega

/-- Four cells of a block, which may be written. -/
structure Four (W : World) (S : Nat) (a b c d : Int) : Prop where
  lt : S < W.heap.size
  fz : ∀ o, W.frozen? ⟨S, o, none⟩ = false
  c0 : W.cell? ⟨S, 0, none⟩ = some (.int .i64 a)
  c1 : W.cell? ⟨S, 1, none⟩ = some (.int .i64 b)
  c2 : W.cell? ⟨S, 2, none⟩ = some (.int .i64 c)
  c3 : W.cell? ⟨S, 3, none⟩ = some (.int .i64 d)
theorem Four.below {W W' : World} {S N : Nat} {a b c d : Int} (h : Four W S a b c d) (hb : Below N W W') (hN : S < N) : Four W' S a b c d :=
  ⟨Nat.lt_of_lt_of_le h.lt hb.size, fun o => (hb.frozen (p := ⟨S, o, none⟩) hN).trans (h.fz o), (hb.cell (p := ⟨S, _, none⟩) hN).trans h.c0, (hb.cell (p := ⟨S, _, none⟩) hN).trans h.c1, (hb.cell (p := ⟨S, _, none⟩) hN).trans h.c2, (hb.cell (p := ⟨S, _, none⟩) hN).trans h.c3⟩
theorem Four.fset {W : World} {S : Nat} {a b c d : Int} (h : Four W S a b c d) (p : Addr) (v : Value) : S < (W.setCell p v).heap.size ∧ ∀ o, (W.setCell p v).frozen? ⟨S, o, none⟩ = false :=
  ⟨by simpa using h.lt, fun o => by simpa using h.fz o⟩
theorem Four.set0 {W : World} {S : Nat} {a b c d : Int} (h : Four W S a b c d) (v : Int) : Four (W.setCell ⟨S, 0, none⟩ (.int .i64 v)) S v b c d :=
  ⟨(h.fset _ _).1, (h.fset _ _).2, World.cell?_setCell_same _ _ _ h.c0, keep_set h.c1 (by simp), keep_set h.c2 (by simp), keep_set h.c3 (by simp)⟩
theorem Four.set1 {W : World} {S : Nat} {a b c d : Int} (h : Four W S a b c d) (v : Int) : Four (W.setCell ⟨S, 1, none⟩ (.int .i64 v)) S a v c d :=
  ⟨(h.fset _ _).1, (h.fset _ _).2, keep_set h.c0 (by simp), World.cell?_setCell_same _ _ _ h.c1, keep_set h.c2 (by simp), keep_set h.c3 (by simp)⟩
theorem Four.set2 {W : World} {S : Nat} {a b c d : Int} (h : Four W S a b c d) (v : Int) : Four (W.setCell ⟨S, 2, none⟩ (.int .i64 v)) S a b v d :=
  ⟨(h.fset _ _).1, (h.fset _ _).2, keep_set h.c0 (by simp), keep_set h.c1 (by simp), World.cell?_setCell_same _ _ _ h.c2, keep_set h.c3 (by simp)⟩
theorem Four.set3 {W : World} {S : Nat} {a b c d : Int} (h : Four W S a b c d) (v : Int) : Four (W.setCell ⟨S, 3, none⟩ (.int .i64 v)) S a b c v :=
  ⟨(h.fset _ _).1, (h.fset _ _).2, keep_set h.c0 (by simp), keep_set h.c1 (by simp), keep_set h.c2 (by simp), World.cell?_setCell_same _ _ _ h.c3⟩
theorem Four.all {W : World} {S : Nat} {a b c d : Int} (h : Four W S a b c d) (a' b' c' d' : Int) :
    Four ((((W.setCell ⟨S, 0, none⟩ (.int .i64 a')).setCell ⟨S, 1, none⟩ (.int .i64 b')).setCell ⟨S, 2, none⟩ (.int .i64 c')).setCell ⟨S, 3, none⟩ (.int .i64 d')) S a' b' c' d' :=
  (((h.set0 a').set1 b').set2 c').set3 d'
theorem Four.other {W : World} {S T o : Nat} {v : Value} {a b c d : Int} (h : Four W S a b c d) (hne : T ≠ S) : Four (W.setCell ⟨T, o, none⟩ v) S a b c d :=
  ⟨(h.fset _ _).1, (h.fset _ _).2, keep_set h.c0 (by simp), keep_set h.c1 (by simp), keep_set h.c2 (by simp), keep_set h.c3 (by simp)⟩
end Go.Proofs.Ytdhobjflfhijjaa
