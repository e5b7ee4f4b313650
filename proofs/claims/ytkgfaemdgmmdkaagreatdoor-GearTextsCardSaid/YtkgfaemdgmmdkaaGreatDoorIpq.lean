/- Parse in the program: a range over the text's lines. -/
import Derived.Test.YtkgfaemdgmmdkaaGreatDoorIpl
import Derived.Test.YtkgfaemdgmmdkaaGreatDoorIpd
import Derived.Test.YtkgfaemdgmmdkaaGreatDoorGxGth
import Derived.OwnWalkIn
import Derived.Deep.AppendLies
namespace Go.Proofs.YtkgfaemdgmmdkaaGreatDoor.Gx
open Go.Proofs.YtkgfaemdgmmdkaaGreatDoor
open Go.RowKit Go.Shelf
attribute [local go_sem] Oper.semAt_some tx_size

/-- What a Parse of at most 65536 bytes answers. -/
def PAnsI (w' : World) (B : Nat) (ls : List (List UInt8)) (x : Ending) : Prop :=
  (∃ ps v, WholeI ls ps ∧ x = .returned (.tuple #[v, .int .i64 0, .int .i64 0]) ∧ w'.ownsRow B 33 4 v ps.length (icv ps)) ∨
  (∃ k : Nat, StopsI ls k ∧ x = .returned (.tuple #[.slice none 0 0, .int .i64 k, .int .i64 2]))
set_option maxRecDepth 100000 in
set_option maxHeartbeats 2000000 in
theorem parseI_long (s : List UInt8) (w : World) (hs : 65536 < s.length) :
    Calls Tryz.prog 7 #[.string (tx s)] w fun e w' => e = .returned (.tuple #[.slice none 0 0, .int .i64 0, .int .i64 3]) ∧ Below w.heap.size w w' := by
  have hs' : (65536 : Int) < (s.length : Int) := by omega
  go_enter Tryz.func7, Tryz.ntmps7
  go_wp2
  go_returns
  exact ⟨rfl, by (repeat' (first | (with_reducible exact Below.refl _ _) | (with_reducible assumption) | (with_reducible refine Below.alloc ?_ ?_ _) | (with_reducible refine Below.drew ?_) | (with_reducible refine below_drewN ?_ _) | (with_reducible refine Below.setCell ?_ ?_ _) | (with_reducible refine below_after ?_ ?_ _) | (with_reducible refine below_set ?_) | (with_reducible refine After.size_le _ ?_) | (with_reducible refine size_alloc_le ?_) | (with_reducible refine size_set_le ?_) | (with_reducible refine size_drewN_le ?_) | go_size))⟩
theorem ownsI_fr {B : Nat} {e : TypeId} {k : Nat} {v : Value} {n : Nat} {xs : List Value} {M : Nat → Prop} {w w' : World} (h : w.ownsRow B e k v n xs) (hf : Fr M w w') (hM : ∀ g o, B ≤ g → w.heap[g]? = some o → o.isCells = true → ¬ M g) : w'.ownsRow B e k v n xs := by
  obtain ⟨h1, h2 | ⟨g, cap, cur, a1, a2, a3, a4⟩⟩ := h
  · exact ⟨h1, .inl h2⟩
  · exact ⟨h1, .inr ⟨g, cap, cur, a1, a2, (hf.same g (Array.getElem?_eq_some_iff.1 a3).1 (hM g _ a2 a3 rfl)).trans a3, a4⟩⟩
theorem ownsI_cells {B : Nat} {e : TypeId} {k : Nat} {v : Value} {n : Nat} {xs : List Value} {w : World} (h : w.ownsRow B e k v n xs) {g : Nat} (hg : v.ownBlock = some g) : ∀ o, w.heap[g]? = some o → o.isCells = true := by
  rcases h with ⟨_, ⟨rfl, _⟩ | ⟨g', cap, cur, rfl, _, a3, _⟩⟩
  · cases hg
  · intro o ho
    cases hg
    rw [a3] at ho
    cases ho
    rfl
theorem three_put (n : Nat) (Z : World) {a0 b0 c0 : Value} (a b c : Value) (h0 : Z.cell? ⟨n, 0, none⟩ = some a0) (h1 : Z.cell? ⟨n + 1, 0, none⟩ = some b0) (h2 : Z.cell? ⟨n + 1 + 1, 0, none⟩ = some c0) :
    ∃ X, ((Z.setCell ⟨n, 0, none⟩ a).setCell ⟨n + 1, 0, none⟩ b).setCell ⟨n + 1 + 1, 0, none⟩ c = X ∧ X.cell? ⟨n, 0, none⟩ = some a ∧ X.cell? ⟨n + 1, 0, none⟩ = some b ∧ X.cell? ⟨n + 1 + 1, 0, none⟩ = some c ∧ ∀ M : Nat → Prop, M n → M (n + 1) → M (n + 1 + 1) → Fr M Z X := by
  have f0 : Fr (fun j => j = n) Z (Z.setCell ⟨n, 0, none⟩ a) := (Fr.refl (M := fun j => j = n) Z).setCell (p := ⟨n, 0, none⟩) (.inl rfl) _
  have f1 : Fr (fun j => j = n + 1) (Z.setCell ⟨n, 0, none⟩ a) ((Z.setCell ⟨n, 0, none⟩ a).setCell ⟨n + 1, 0, none⟩ b) := (Fr.refl (M := fun j => j = n + 1) _).setCell (p := ⟨n + 1, 0, none⟩) (.inl rfl) _
  have f2 : Fr (fun j => j = n + 1 + 1) ((Z.setCell ⟨n, 0, none⟩ a).setCell ⟨n + 1, 0, none⟩ b) (((Z.setCell ⟨n, 0, none⟩ a).setCell ⟨n + 1, 0, none⟩ b).setCell ⟨n + 1 + 1, 0, none⟩ c) := (Fr.refl (M := fun j => j = n + 1 + 1) _).setCell (p := ⟨n + 1 + 1, 0, none⟩) (.inl rfl) _
  refine ⟨_, rfl, f2.cell (p := ⟨n, 0, none⟩) (by simp; omega) (f1.cell (p := ⟨n, 0, none⟩) (by simp) (World.cell?_setCell_same _ _ _ h0)), f2.cell (p := ⟨n + 1, 0, none⟩) (by simp) (World.cell?_setCell_same _ _ _ (f0.cell (p := ⟨n + 1, 0, none⟩) (by simp) h1)), World.cell?_setCell_same _ _ _ (f1.cell (p := ⟨n + 1 + 1, 0, none⟩) (by simp) (f0.cell (p := ⟨n + 1 + 1, 0, none⟩) (by simp; omega) h2)), fun M m0 m1 m2 => ?_⟩
  exact (((Fr.refl Z).setCell (.inl m0) _).setCell (.inl m1) _).setCell (.inl m2) _
theorem parI_out {X : World} {v : Value} {l e : Int} {p0 p1 p2 : Nat} (h0 : X.cell? ⟨p0, 0, none⟩ = some v) (h1 : X.cell? ⟨p1, 0, none⟩ = some (.int .i64 l)) (h2 : X.cell? ⟨p2, 0, none⟩ = some (.int .i64 e)) {t0 t1 : Value} {ts : List Value} :
    (results Tryz.f7 (t0 :: t1 :: .pointer (some ⟨p0, 0, none⟩) :: .pointer (some ⟨p1, 0, none⟩) :: .pointer (some ⟨p2, 0, none⟩) :: ts).toArray).run Tryz.prog X = .ok (.tuple #[v, .int .i64 l, .int .i64 e]) X := by
  simp [results, Tryz.results7, go_sem, h0, h1, h2]
theorem lines_any (s : List UInt8) (w : World) :
    Calls Tryz.prog 20 #[.string (tx s)] w fun e w' => e = .returned (.func (.func 37) #[] #[.pointer (some ⟨w.heap.size, 0, none⟩)]) ∧ w' = w.alloc (.cells #[.string (tx s)] 9) := by
  go_enter Tryz.func20, Tryz.ntmps20
  go_wp2
  go_ret
  exact ⟨rfl, rfl⟩
set_option maxRecDepth 100000 in
set_option maxHeartbeats 2000000 in
theorem parseI_any (s : List UInt8) (w : World) (hs : s.length ≤ 65536) (hS : Std w) :
    Calls Tryz.prog 7 #[.string (tx s)] w fun e w' => (∃ B, PAnsI w' B (wordsL 10 s) e) ∧ Below w.heap.size w w' := by
  obtain ⟨i0, hi, hz0, hz1, hz2⟩ := info_parts itInfo
  have hs' : (s.length : Int) ≤ 65536 := by omega
  have HL := Lib.hid (lines_any s)
  refine (callsIn_wide (n := 6)).1 ?_
  refine callsIn_of_wp_marks Tryz.func7 rfl trivial ?_ rfl
  simp only [Tryz.ntmps7, List.size_toArray, List.length_cons, List.length_nil, Nat.reduceAdd, Nat.reduceSub, Array.replicate_succ, Array.replicate_zero, List.push_toArray, List.append_toArray, List.nil_append, List.cons_append]
  refine wpIn_wide.2 ?_
  go_wp2_with (go_at_call 20; refine (HL.out _).mono ?_; rintro e w2 ⟨rfl, rfl⟩)
  have B0 : Below w.heap.size w ((((w.alloc (.cells #[.slice none 0 0] 22)).alloc (.cells #[.int .i64 0] 3)).alloc (.cells #[.int .i64 0] 26)).alloc (.cells #[.string (tx s)] 9)) := by (repeat' (first | (with_reducible exact Below.refl _ _) | (with_reducible assumption) | (with_reducible refine Below.alloc ?_ ?_ _) | (with_reducible refine Below.drew ?_) | (with_reducible refine below_drewN ?_ _) | (with_reducible refine Below.setCell ?_ ?_ _) | (with_reducible refine below_after ?_ ?_ _) | (with_reducible refine below_set ?_) | (with_reducible refine After.size_le _ ?_) | (with_reducible refine size_alloc_le ?_) | (with_reducible refine size_set_le ?_) | (with_reducible refine size_drewN_le ?_) | go_size))
  obtain ⟨W0, hW0⟩ : ∃ W0, ((((w.alloc (.cells #[.slice none 0 0] 22)).alloc (.cells #[.int .i64 0] 3)).alloc (.cells #[.int .i64 0] 26)).alloc (.cells #[.string (tx s)] 9)) = W0 := ⟨_, rfl⟩
  have eu : W0.cell? ⟨w.heap.size, 0, none⟩ = some (.slice none 0 0) := by rw [← hW0]; simp [go_sem]
  have el : W0.cell? ⟨w.heap.size + 1, 0, none⟩ = some (.int .i64 0) := by rw [← hW0]; simp [go_sem]
  have ee : W0.cell? ⟨w.heap.size + 1 + 1, 0, none⟩ = some (.int .i64 0) := by rw [← hW0]; simp [go_sem]
  have ex : W0.cell? ⟨w.heap.size + 1 + 1 + 1, 0, none⟩ = some (.string (tx s)) := by rw [← hW0]; simp [go_sem]
  have fu : W0.frozen? ⟨w.heap.size, 0, none⟩ = false := by rw [← hW0]; simp [go_sem]
  have fl : W0.frozen? ⟨w.heap.size + 1, 0, none⟩ = false := by rw [← hW0]; simp [go_sem]
  have fe : W0.frozen? ⟨w.heap.size + 1 + 1, 0, none⟩ = false := by rw [← hW0]; simp [go_sem]
  have fx : W0.frozen? ⟨w.heap.size + 1 + 1 + 1, 0, none⟩ = false := by rw [← hW0]; simp [go_sem]
  have es : W0.heap.size = w.heap.size + 4 := by rw [← hW0]; simp
  rw [hW0] at B0 ⊢
  clear hW0
  refine wpIn_wide (n := 6).1 ?_
  refine wpIn_rangeFunc_fr rfl (by omega) (gf := 37) (lb := #[.pointer (some ⟨w.heap.size + 1 + 1 + 1, 0, none⟩)]) rfl trivial (enters_of Tryz.func37 (by kernel_rfl) rfl)
    (O := fun j => j = w.heap.size + 1 + 1 + 1) (M := fun j => j = w.heap.size ∨ j = w.heap.size + 1 ∨ j = w.heap.size + 1 + 1)
    (fun j h => by omega)
    (lines_fr 5 (by omega) (w.heap.size + 1 + 1 + 1) s _ (fun h => by omega) W0 hs ex fx)
    (fun j h => by omega) (fun _ => rfl)
    (fun pre V => ((∃ ps v, GoodI ps ∧ pre.flatten = formI ps ∧ V.cell? ⟨w.heap.size, 0, none⟩ = some v ∧ V.ownsRow (W0.heap.size + 2 + 0) 33 4 v ps.length (icv ps)) ∧
      V.frozen? ⟨w.heap.size, 0, none⟩ = false ∧ V.cell? ⟨w.heap.size + 1, 0, none⟩ = some (.int .i64 0) ∧ V.frozen? ⟨w.heap.size + 1, 0, none⟩ = false ∧ V.cell? ⟨w.heap.size + 1 + 1, 0, none⟩ = some (.int .i64 0) ∧ V.frozen? ⟨w.heap.size + 1 + 1, 0, none⟩ = false) ∧ Below w.heap.size w V)
    (fun c _ V => c = .ret ∧ (∃ k : Nat, StopsI (wordsL 10 s) k ∧ V.cell? ⟨w.heap.size, 0, none⟩ = some (.slice none 0 0) ∧ V.cell? ⟨w.heap.size + 1, 0, none⟩ = some (.int .i64 k) ∧ V.cell? ⟨w.heap.size + 1 + 1, 0, none⟩ = some (.int .i64 2)) ∧ Below w.heap.size w V)
    (fun pre A A' hs hf => by
      have out : ∀ j, j < w.heap.size + 3 → ¬ OwnM (fun j => j = w.heap.size + 1 + 1 + 1) W0.heap.size (W0.heap.size + 2 + 0) A j := fun j hj h => by
        rcases h with h | h
        · omega
        · have := h.1; omega
      obtain ⟨⟨⟨ps, v, h1, h2, h3, h4⟩, h5, h6, h7, h8, h9⟩, h10⟩ := hs
      have l0 := World.block_lt_of_cell? A _ h8
      dsimp only at l0
      refine ⟨⟨⟨ps, v, h1, h2, hf.cell (p := ⟨w.heap.size, 0, none⟩) (out _ (by simp)) h3, ownsI_fr h4 hf (fun g o hg ho hc hM => ?_)⟩, (hf.frozen (p := ⟨w.heap.size, 0, none⟩) (out _ (by simp)) (by simp; omega)).trans h5, hf.cell (p := ⟨w.heap.size + 1, 0, none⟩) (out _ (by simp)) h6, (hf.frozen (p := ⟨w.heap.size + 1, 0, none⟩) (out _ (by simp)) (by simp; omega)).trans h7, hf.cell (p := ⟨w.heap.size + 1 + 1, 0, none⟩) (out _ (by simp)) h8, (hf.frozen (p := ⟨w.heap.size + 1 + 1, 0, none⟩) (out _ (by simp)) (by simp; omega)).trans h9⟩, h10.trans (hf.below h10.size (fun j hj => out j (by omega)))⟩
      rcases hM with h | ⟨_, h | ⟨o', h5, h6⟩⟩
      · omega
      · omega
      · rw [ho] at h5; cases h5; rw [hc] at h6; cases h6)
    (fun c pre A A' hs hf => by
      have out : ∀ j, j < w.heap.size + 3 → ¬ OwnM (fun j => j = w.heap.size + 1 + 1 + 1) W0.heap.size (W0.heap.size + 2 + 0) A j := fun j hj h => by
        rcases h with h | h
        · omega
        · have := h.1; omega
      obtain ⟨h1, ⟨k, h2, h3, h4, h5⟩, h6⟩ := hs
      exact ⟨h1, ⟨k, h2, hf.cell (p := ⟨w.heap.size, 0, none⟩) (out _ (by simp)) h3, hf.cell (p := ⟨w.heap.size + 1, 0, none⟩) (out _ (by simp)) h4, hf.cell (p := ⟨w.heap.size + 1 + 1, 0, none⟩) (out _ (by simp)) h5⟩, h6.trans (hf.below h6.size (fun j hj => out j (by omega)))⟩)
    ⟨⟨⟨[], _, goodI_nil, rfl, eu, World.ownsRow_nil _ _ _ _⟩, fu, el, fl, ee, fe⟩, B0⟩
    (fun x a' (_ : World) => a' = { tmps := #[.string (tx s), undef, .pointer (some ⟨w.heap.size, 0, none⟩), .pointer (some ⟨w.heap.size + 1, 0, none⟩), .pointer (some ⟨w.heap.size + 1 + 1, 0, none⟩), .string (tx x), undef, undef, .string (tx s), .int .i64 s.length, .bool (decide (65536 < (s.length : Int))), .string (tx s), .func (.func 37) #[] #[.pointer (some ⟨w.heap.size + 1 + 1 + 1, 0, none⟩)], .string (tx x), undef, undef, undef, undef, undef, undef, undef, undef, undef, undef, undef, undef, undef, undef, undef, undef, undef, undef, undef, undef], defers := [] })
    (fun x a' _ A A' hs hf => hs)
    ?assign ?body ?done ?stop
  case assign =>
    rintro l' pre x V K hnx hI hsz hK
    gi_wp2
    exact hK _ _ (Fr.refl V) hI rfl
  case body =>
    rintro l' pre x a' V ⟨r, hr⟩ hnx ⟨⟨⟨ps, v, h1, h2, h3, h4⟩, h5, h6, h7, h8, h9⟩, hB⟩ rfl hsz
    have hxl : x.length ≤ 65536 := by
      obtain ⟨r', e0, _⟩ := hnx
      have := congrArg List.length e0
      simp only [List.length_append] at this
      omega
    have HRd := Lib.hid (readItem_any hxl (hS.on hB))
    have HB := Lib.hid hB
    have HOw := Lib.hid h4
    have HN := Lib.hid hnx
    have hu := World.block_lt_of_cell? V _ h8
    dsimp only at hu
    clear hB h4 hnx
    gi_wp2
    refine ⟨trivial, (CallsIn.inRound l' (callsIn_wide.2 HRd.out)).mono ?_⟩
    rintro e w2 ⟨⟨q, ok, rfl, hql, hyes, hnot⟩, hw2⟩
    have F2 : Fr (fun _ => False) V w2 := (Fr.refl V).call hw2
    have g3 := F2.cell (p := ⟨w.heap.size, 0, none⟩) id h3
    have g5 := (F2.frozen (p := ⟨w.heap.size, 0, none⟩) id (by simp; omega)).trans h5
    have g6 := F2.cell (p := ⟨w.heap.size + 1, 0, none⟩) id h6
    have g7 := (F2.frozen (p := ⟨w.heap.size + 1, 0, none⟩) id (by simp; omega)).trans h7
    have g8 := F2.cell (p := ⟨w.heap.size + 1 + 1, 0, none⟩) id h8
    have g9 := (F2.frozen (p := ⟨w.heap.size + 1 + 1, 0, none⟩) id (by simp; omega)).trans h9
    have hs2 := hw2.size
    have HW2 := Lib.hid hw2
    have HO2 := Lib.hid (ownsR_stay HOw.out hw2)
    have HYes := Lib.hid hyes
    have HNot := Lib.hid hnot
    clear F2 hw2 hyes hnot h3 h5 h6 h7 h8 h9
    obtain ⟨Z, hZ⟩ : ∃ Z, w2.alloc (.cells #[.string (tx q.1), .int .i64 q.2.1, .int .i64 q.2.2.1, .string (tx q.2.2.2)] 33) = Z := ⟨_, rfl⟩
    have FZ : Fr (fun _ => False) w2 Z := by rw [← hZ]; exact (Fr.refl w2).alloc _
    have k3 := FZ.cell (p := ⟨w.heap.size, 0, none⟩) id g3
    have k5 := (FZ.frozen (p := ⟨w.heap.size, 0, none⟩) id (by simp; omega)).trans g5
    have k6 := FZ.cell (p := ⟨w.heap.size + 1, 0, none⟩) id g6
    have k7 := (FZ.frozen (p := ⟨w.heap.size + 1, 0, none⟩) id (by simp; omega)).trans g7
    have k8 := FZ.cell (p := ⟨w.heap.size + 1 + 1, 0, none⟩) id g8
    have k9 := (FZ.frozen (p := ⟨w.heap.size + 1 + 1, 0, none⟩) id (by simp; omega)).trans g9
    have kx0 : Z.cell? ⟨w2.heap.size, 0, none⟩ = some (.string (tx q.1)) := by rw [← hZ]; simp [go_sem]
    have kx1 : Z.cell? ⟨w2.heap.size, 1, none⟩ = some (.int .i64 q.2.1) := by rw [← hZ]; simp [go_sem]
    have kx2 : Z.cell? ⟨w2.heap.size, 2, none⟩ = some (.int .i64 q.2.2.1) := by rw [← hZ]; simp [go_sem]
    have kx3 : Z.cell? ⟨w2.heap.size, 3, none⟩ = some (.string (tx q.2.2.2)) := by rw [← hZ]; simp [go_sem]
    have bZ : Below w2.heap.size w2 Z := by rw [← hZ]; exact (Below.refl _ _).alloc (Nat.le_refl _) _
    have sZ : Z.heap.size = w2.heap.size + 1 := by rw [← hZ]; simp
    have FVZ : Fr (fun _ => False) V Z := ((Fr.refl V).call HW2.out).then FZ (fun i _ h _ => h)
    have HOZ := Lib.hid (ownsR_stay HO2.out bZ)
    have HBZ := Lib.hid ((HB.out.trans (HW2.out.mono HB.out.size)).trans (bZ.mono (by have := HB.out.size; omega)))
    have HFVZ := Lib.hid FVZ
    have HQl := Lib.hid hql
    have hz3 : w.heap.size + 1 + 1 < Z.heap.size ∧ W0.heap.size + 2 + 0 ≤ Z.heap.size ∧ V.heap.size ≤ Z.heap.size := by omega
    obtain ⟨hz3, hz4, hz5⟩ := hz3
    clear sZ
    clear FZ FVZ bZ g3 g5 g6 g7 g8 g9 hql
    have hl5 := h1.1
    have H1 := Lib.hid h1
    have H2 := Lib.hid h2
    have HSn := Lib.hid (icv_snoc ps q)
    have HY1 : Hid (ok = true → InI q ∧ x = itL q ++ [10]) := HYes
    clear h1 h2 HYes
    obtain ⟨q0, q1, q2, q3⟩ := q
    simp only at kx0 kx1 kx2 kx3 hZ HSn
    cases ok
    · have HNo := Lib.hid (HNot.out rfl)
      have HSt := Lib.hid (lineI_bad H2.out H1.out HN.out (fun q' hq' e' _ => HNo.out q' hq' e'))
      clear HNot HY1 HNo
      gi_wp2_with (gi_at_builtin; refine wpListIn_append_own _ rfl _ _ 22 rfl (W0.heap.size + 2 + 0) 33 i0 (.agg #[.string ByteArray.empty, .int .i64 0, .int .i64 0, .string ByteArray.empty]) 4 48 Tryz.underlying22 hi hz0 hz1 hz2 rfl (by decide) _ _ _ rfl (HOZ.out.alloc _) ⟨Z.heap.size, 0, none⟩ 1 1 [.string (tx q0), .int .i64 q1, .int .i64 q2, .string (tx q3)] rfl rfl (World.news_of_block (cs := #[.string (tx q0), .int .i64 q1, .int .i64 q2, .string (tx q3)]) (t := 33) (fr := (0, 0)) (heap_alloc_new Z _)) (by simp [Value.oneCell']) (by unfold maxLen; omega) (by omega) (by simp; omega) ?_; intro v' w4 hown' hgrow _; obtain ⟨g', cap', rfl⟩ := Go.Joins.ownsRow_form hown' (by omega); have F4 : Fr (fun g => W0.heap.size + 2 + 0 ≤ g) Z w4 := ((Fr.refl Z).alloc _).grown hgrow (fun k e => .inl (HOZ.out.lt k e).1); have m3 := F4.cell (p := ⟨w.heap.size, 0, none⟩) (by simp; omega) k3; have m5 := (F4.frozen (p := ⟨w.heap.size, 0, none⟩) (by simp; omega) (by simp; omega)).trans k5; have m6 := F4.cell (p := ⟨w.heap.size + 1, 0, none⟩) (by simp; omega) k6; have m7 := (F4.frozen (p := ⟨w.heap.size + 1, 0, none⟩) (by simp; omega) (by simp; omega)).trans k7; have m8 := F4.cell (p := ⟨w.heap.size + 1 + 1, 0, none⟩) (by simp; omega) k8; have m9 := (F4.frozen (p := ⟨w.heap.size + 1 + 1, 0, none⟩) (by simp; omega) (by simp; omega)).trans k9; have HO4 := Lib.hid hown'; have HG4 := Lib.hid hgrow; have HF4 := Lib.hid F4; clear hown' hgrow F4)
      have hlen : (ps ++ [(q0, q1, q2, q3)]).length = ps.length + 1 := by simp
      obtain ⟨X6, hX6⟩ : ∃ X, w4.setCell ⟨w.heap.size, 0, none⟩ (.slice (some ⟨g', 0, none⟩) (ps.length + 1) cap') = X := ⟨_, rfl⟩
      have FS : Fr (fun j => j = w.heap.size) w4 X6 := by rw [← hX6]; exact (Fr.refl (M := fun j => j = w.heap.size) w4).setCell (p := ⟨w.heap.size, 0, none⟩) (.inl rfl) _
      have l4 := World.block_lt_of_cell? w4 _ m8
      dsimp only at l4
      have n3 : X6.cell? ⟨w.heap.size, 0, none⟩ = some (.slice (some ⟨g', 0, none⟩) (ps.length + 1) cap') := by rw [← hX6]; exact World.cell?_setCell_same _ _ _ m3
      have n5 : X6.frozen? ⟨w.heap.size, 0, none⟩ = false := by rw [← hX6]; simpa using m5
      have n6 := FS.cell (p := ⟨w.heap.size + 1, 0, none⟩) (by simp) m6
      have n7 := (FS.frozen (p := ⟨w.heap.size + 1, 0, none⟩) (by simp) (by simp; omega)).trans m7
      have n8 := FS.cell (p := ⟨w.heap.size + 1 + 1, 0, none⟩) (by simp; omega) m8
      have n9 := (FS.frozen (p := ⟨w.heap.size + 1 + 1, 0, none⟩) (by simp; omega) (by simp; omega)).trans m9
      have HO6 : Hid (X6.ownsRow (W0.heap.size + 2 + 0) 33 4 (.slice (some ⟨g', 0, none⟩) (ps ++ [(q0, q1, q2, q3)]).length cap') (ps ++ [(q0, q1, q2, q3)]).length (icv (ps ++ [(q0, q1, q2, q3)]))) := Lib.hid (by rw [hlen, HSn.out]; exact ownsI_fr HO4.out FS (fun g o hg _ _ hM => by omega))
      have FV : Fr (RndM NoO (fun j => j = w.heap.size ∨ j = w.heap.size + 1 ∨ j = w.heap.size + 1 + 1) (W0.heap.size + 2 + 0) V) V w4 := (((HFVZ.out.mono (fun _ _ h => h.elim)).alloc _)).grown HG4.out (fun g e => (Nat.lt_or_ge g V.heap.size).elim (fun hlt => .inl (.inr ⟨(HOZ.out.lt g e).1, fun o ho => ⟨ownsI_cells HOw.out e o ho, id⟩⟩)) .inr)
      have HF6 : Hid (Fr (RndM NoO (fun j => j = w.heap.size ∨ j = w.heap.size + 1 ∨ j = w.heap.size + 1 + 1) (W0.heap.size + 2 + 0) V) V X6) := Lib.hid (by rw [← hX6]; exact FV.setCell (p := ⟨w.heap.size, 0, none⟩) (.inl (.inl (.inl rfl))) _)
      have HB6 : Hid (Below w.heap.size w X6) := Lib.hid (by rw [← hX6]; exact (HBZ.out.trans (HF4.out.below (by omega) (fun i h => by omega))).setCell (Nat.le_refl _) _)
      have hs6 : X6.heap.size = w4.heap.size := by rw [← hX6]; simp
      rw [hX6]
      clear hX6 FS FV m3 m5 m6 m7 m8 m9 HO4 HG4 HF4 HFVZ HBZ HOZ k3 k5 k6 k7 k8 k9 kx0 kx1 kx2 kx3 hZ
      obtain ⟨X, hX, x1, x2, x3, x4⟩ := three_put w.heap.size X6 (.slice none 0 0) (.int .i64 (ps.length : Nat)) (.int .i64 2) n3 n6 n8
      have HX := Lib.hid hX
      clear hX
      refine ⟨trivial, ?_⟩
      gi_wp2
      rw [HX.out]
      exact ⟨HF6.out.then (x4 (RndM NoO (fun j => j = w.heap.size ∨ j = w.heap.size + 1 ∨ j = w.heap.size + 1 + 1) (W0.heap.size + 2 + 0) V) (.inl (.inl rfl)) (.inl (.inr (.inl rfl))) (.inl (.inr (.inr rfl)))) (fun i _ h _ => h), rfl, ⟨_, HSt.out, x1, x2, x3⟩, HB6.out.trans ((x4 (fun j => w.heap.size ≤ j) (show w.heap.size ≤ _ by omega) (show w.heap.size ≤ _ by omega) (show w.heap.size ≤ _ by omega)).below HB6.out.size (fun i h h' => by omega))⟩
    · have HY2 := Lib.hid (HY1.out rfl)
      clear HNot HY1
      gi_wp2_with (gi_at_builtin; refine wpListIn_append_own _ rfl _ _ 22 rfl (W0.heap.size + 2 + 0) 33 i0 (.agg #[.string ByteArray.empty, .int .i64 0, .int .i64 0, .string ByteArray.empty]) 4 48 Tryz.underlying22 hi hz0 hz1 hz2 rfl (by decide) _ _ _ rfl (HOZ.out.alloc _) ⟨Z.heap.size, 0, none⟩ 1 1 [.string (tx q0), .int .i64 q1, .int .i64 q2, .string (tx q3)] rfl rfl (World.news_of_block (cs := #[.string (tx q0), .int .i64 q1, .int .i64 q2, .string (tx q3)]) (t := 33) (fr := (0, 0)) (heap_alloc_new Z _)) (by simp [Value.oneCell']) (by unfold maxLen; omega) (by omega) (by simp; omega) ?_; intro v' w4 hown' hgrow _; obtain ⟨g', cap', rfl⟩ := Go.Joins.ownsRow_form hown' (by omega); have F4 : Fr (fun g => W0.heap.size + 2 + 0 ≤ g) Z w4 := ((Fr.refl Z).alloc _).grown hgrow (fun k e => .inl (HOZ.out.lt k e).1); have m3 := F4.cell (p := ⟨w.heap.size, 0, none⟩) (by simp; omega) k3; have m5 := (F4.frozen (p := ⟨w.heap.size, 0, none⟩) (by simp; omega) (by simp; omega)).trans k5; have m6 := F4.cell (p := ⟨w.heap.size + 1, 0, none⟩) (by simp; omega) k6; have m7 := (F4.frozen (p := ⟨w.heap.size + 1, 0, none⟩) (by simp; omega) (by simp; omega)).trans k7; have m8 := F4.cell (p := ⟨w.heap.size + 1 + 1, 0, none⟩) (by simp; omega) k8; have m9 := (F4.frozen (p := ⟨w.heap.size + 1 + 1, 0, none⟩) (by simp; omega) (by simp; omega)).trans k9; have HO4 := Lib.hid hown'; have HG4 := Lib.hid hgrow; have HF4 := Lib.hid F4; clear hown' hgrow F4)
      have hlen : (ps ++ [(q0, q1, q2, q3)]).length = ps.length + 1 := by simp
      obtain ⟨X6, hX6⟩ : ∃ X, w4.setCell ⟨w.heap.size, 0, none⟩ (.slice (some ⟨g', 0, none⟩) (ps.length + 1) cap') = X := ⟨_, rfl⟩
      have FS : Fr (fun j => j = w.heap.size) w4 X6 := by rw [← hX6]; exact (Fr.refl (M := fun j => j = w.heap.size) w4).setCell (p := ⟨w.heap.size, 0, none⟩) (.inl rfl) _
      have l4 := World.block_lt_of_cell? w4 _ m8
      dsimp only at l4
      have n3 : X6.cell? ⟨w.heap.size, 0, none⟩ = some (.slice (some ⟨g', 0, none⟩) (ps.length + 1) cap') := by rw [← hX6]; exact World.cell?_setCell_same _ _ _ m3
      have n5 : X6.frozen? ⟨w.heap.size, 0, none⟩ = false := by rw [← hX6]; simpa using m5
      have n6 := FS.cell (p := ⟨w.heap.size + 1, 0, none⟩) (by simp) m6
      have n7 := (FS.frozen (p := ⟨w.heap.size + 1, 0, none⟩) (by simp) (by simp; omega)).trans m7
      have n8 := FS.cell (p := ⟨w.heap.size + 1 + 1, 0, none⟩) (by simp; omega) m8
      have n9 := (FS.frozen (p := ⟨w.heap.size + 1 + 1, 0, none⟩) (by simp; omega) (by simp; omega)).trans m9
      have HO6 : Hid (X6.ownsRow (W0.heap.size + 2 + 0) 33 4 (.slice (some ⟨g', 0, none⟩) (ps ++ [(q0, q1, q2, q3)]).length cap') (ps ++ [(q0, q1, q2, q3)]).length (icv (ps ++ [(q0, q1, q2, q3)]))) := Lib.hid (by rw [hlen, HSn.out]; exact ownsI_fr HO4.out FS (fun g o hg _ _ hM => by omega))
      have FV : Fr (RndM NoO (fun j => j = w.heap.size ∨ j = w.heap.size + 1 ∨ j = w.heap.size + 1 + 1) (W0.heap.size + 2 + 0) V) V w4 := (((HFVZ.out.mono (fun _ _ h => h.elim)).alloc _)).grown HG4.out (fun g e => (Nat.lt_or_ge g V.heap.size).elim (fun hlt => .inl (.inr ⟨(HOZ.out.lt g e).1, fun o ho => ⟨ownsI_cells HOw.out e o ho, id⟩⟩)) .inr)
      have HF6 : Hid (Fr (RndM NoO (fun j => j = w.heap.size ∨ j = w.heap.size + 1 ∨ j = w.heap.size + 1 + 1) (W0.heap.size + 2 + 0) V) V X6) := Lib.hid (by rw [← hX6]; exact FV.setCell (p := ⟨w.heap.size, 0, none⟩) (.inl (.inl (.inl rfl))) _)
      have HB6 : Hid (Below w.heap.size w X6) := Lib.hid (by rw [← hX6]; exact (HBZ.out.trans (HF4.out.below (by omega) (fun i h => by omega))).setCell (Nat.le_refl _) _)
      have hs6 : X6.heap.size = w4.heap.size := by rw [← hX6]; simp
      rw [hX6]
      clear hX6 FS FV m3 m5 m6 m7 m8 m9 HO4 HG4 HF4 HFVZ HBZ HOZ k3 k5 k6 k7 k8 k9 kx0 kx1 kx2 kx3 hZ
      obtain ⟨a6, c6, e6, _, hI6⟩ := iat_row HO6.out
      cases e6
      have HVl := Lib.hid (valid_i (cap := cap') hI6 (by omega) (shI_snoc (p := (q0, q1, q2, q3)) (goodI_sh H1.out) (by have := HQl.out.1; dsimp only at this ⊢; omega) (by have := HQl.out.2; dsimp only at this ⊢; omega)) X6 (Below.refl _ _))
      obtain ⟨gg, hgg⟩ : ∃ gg, gB (ps ++ [(q0, q1, q2, q3)]) = gg := ⟨_, rfl⟩
      have HGg := Lib.hid hgg
      rw [hgg, hlen] at HVl
      clear hgg hI6
      refine ⟨trivial, (CallsIn.inRound l' (callsIn_wide.2 HVl.out)).mono ?_⟩
      rintro e w7 ⟨rfl, hw7⟩
      have F7 : Fr (fun _ => False) X6 w7 := (Fr.refl X6).call hw7
      have j3 := F7.cell (p := ⟨w.heap.size, 0, none⟩) id n3
      have j5 := (F7.frozen (p := ⟨w.heap.size, 0, none⟩) id (by simp; omega)).trans n5
      have j6 := F7.cell (p := ⟨w.heap.size + 1, 0, none⟩) id n6
      have j7 := (F7.frozen (p := ⟨w.heap.size + 1, 0, none⟩) id (by simp; omega)).trans n7
      have j8 := F7.cell (p := ⟨w.heap.size + 1 + 1, 0, none⟩) id n8
      have j9 := (F7.frozen (p := ⟨w.heap.size + 1 + 1, 0, none⟩) id (by simp; omega)).trans n9
      have HO7 := Lib.hid (ownsR_stay HO6.out hw7)
      have HB7 := Lib.hid (HB6.out.trans (hw7.mono HB6.out.size))
      have HF7 := Lib.hid (HF6.out.then F7 (fun i _ _ _ h => h))
      clear F7 hw7 n3 n5 n6 n7 n8 n9 HO6 HB6 HF6 HVl
      cases gg
      · have HSt := Lib.hid (lineI_bad H2.out H1.out HN.out (fun q' hq' e' hgq => by
          have e1 : itL q' = itL (q0, q1, q2, q3) := by rw [HY2.out.2] at e'; exact (List.append_cancel_right e').symm
          rw [it_inj hq' HY2.out.1 e1] at hgq
          exact gB_bad HGg.out hgq))
        obtain ⟨X, hX, x1, x2, x3, x4⟩ := three_put w.heap.size w7 (.slice none 0 0) (.int .i64 (ps.length : Nat)) (.int .i64 2) j3 j6 j8
        have HX := Lib.hid hX
        clear hX
        gi_wp2
        rw [HX.out]
        exact ⟨HF7.out.then (x4 (RndM NoO (fun j => j = w.heap.size ∨ j = w.heap.size + 1 ∨ j = w.heap.size + 1 + 1) (W0.heap.size + 2 + 0) V) (.inl (.inl rfl)) (.inl (.inr (.inl rfl))) (.inl (.inr (.inr rfl)))) (fun i _ h _ => h), rfl, ⟨_, HSt.out, x1, x2, x3⟩, HB7.out.trans ((x4 (fun j => w.heap.size ≤ j) (show w.heap.size ≤ _ by omega) (show w.heap.size ≤ _ by omega) (show w.heap.size ≤ _ by omega)).below HB7.out.size (fun i h h' => by omega))⟩
      · gi_wp2
        exact ⟨HF7.out, ⟨⟨ps ++ [(q0, q1, q2, q3)], _, gB_good.1 HGg.out, by rw [HY2.out.2]; exact lineI_good H2.out, by rw [hlen] at *; exact j3, HO7.out⟩, j5, j6, j7, j8, j9⟩, HB7.out⟩
  case done =>
    rintro D ys V hD hys ⟨⟨⟨ps, v, h1, h2, h3, h4⟩, h5, h6, h7, h8, h9⟩, hB⟩ hK
    obtain ⟨X, hX, x1, x2, x3, x4⟩ := three_put w.heap.size V v (.int .i64 0) (.int .i64 0) h3 h6 h8
    have f1 : Fr (fun j => j = w.heap.size ∨ j = w.heap.size + 1 ∨ j = w.heap.size + 1 + 1) V X := x4 _ (.inl rfl) (.inr (.inl rfl)) (.inr (.inr rfl))
    have hKX : X.heap[D]? = some (.deferred (some [])) := (f1.same D (Array.getElem?_eq_some_iff.1 hK).1 (by omega)).trans hK
    have HW := Lib.hid (linesI_done hys h2 h1)
    have HOX := Lib.hid (ownsI_fr h4 f1 (fun g o hg _ _ h => by omega))
    have HBX := Lib.hid (hB.trans (x4 (fun j => w.heap.size ≤ j) (show w.heap.size ≤ _ by omega) (show w.heap.size ≤ _ by omega) (show w.heap.size ≤ _ by omega) |>.below hB.size (fun i h h' => by omega)))
    have HX := Lib.hid hX
    obtain ⟨av, cv, rfl⟩ := ownsR_shape h4
    clear hX x4 f1 hK h4 hB h2
    gi_wp2
    go_wp2
    rw [HX.out]
    refine ⟨by simp, .inl ⟨_, _, rfl, run_takeDeferred hKX, ?_⟩⟩
    have fp : Fr (fun j => j = D) X (X.putObj D (.deferred none)) := Fr.put X D _
    refine ⟨_, parI_out (fp.cell (p := ⟨w.heap.size, 0, none⟩) (by simp; omega) x1) (fp.cell (p := ⟨w.heap.size + 1, 0, none⟩) (by simp; omega) x2) (fp.cell (p := ⟨w.heap.size + 1 + 1, 0, none⟩) (by simp; omega) x3), ⟨_, .inl ⟨ps, _, HW.out, rfl, ownsI_fr HOX.out fp (fun g o hg ho hc h => ?_)⟩⟩, HBX.out.trans (fp.below HBX.out.size (fun i h h' => by omega))⟩
    subst h
    rw [hKX] at ho
    cases ho
    cases hc
  case stop =>
    rintro D c pre X hD hSp ⟨rfl, ⟨k, h2, h3, h4, h5⟩, h6⟩ hK
    have HSt := Lib.hid h2
    clear h2
    gi_wp2
    refine ⟨by simp, .inl ⟨_, _, rfl, run_takeDeferred hK, ?_⟩⟩
    have fp : Fr (fun j => j = D) X (X.putObj D (.deferred none)) := Fr.put X D _
    exact ⟨_, parI_out (fp.cell (p := ⟨w.heap.size, 0, none⟩) (by simp; omega) h3) (fp.cell (p := ⟨w.heap.size + 1, 0, none⟩) (by simp; omega) h4) (fp.cell (p := ⟨w.heap.size + 1 + 1, 0, none⟩) (by simp; omega) h5), ⟨0, .inr ⟨k, HSt.out, rfl⟩⟩, h6.trans (fp.below h6.size (fun i h h' => by omega))⟩
end Go.Proofs.YtkgfaemdgmmdkaaGreatDoor.Gx
