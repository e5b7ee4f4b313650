/- isEnd, ends, Ends of the program. -/
import Derived.Test.YtkgfaemdgmmdkaaGreatDoorGxGun
import Derived.Test.YtkgfaemdgmmdkaaGreatDoorGxGle
namespace Go.Proofs.YtkgfaemdgmmdkaaGreatDoor.Gx
open Go.Proofs.YtkgfaemdgmmdkaaGreatDoor
open Go.RowKit Go.Shelf
attribute [local go_sem] Oper.semAt_some

theorem under_mk (lv iv : Value) (i : Nat) (w : World) :
    Calls Tryz.prog 47 #[.agg #[lv, iv], .int .i64 (i : Nat)] w fun e w' => e = .returned (.func (.func 60) #[] #[.pointer (some ⟨w.heap.size + 1, 0, none⟩), .pointer (some ⟨w.heap.size, 0, none⟩)]) ∧ (w.alloc (.cells #[lv, iv] 68)).alloc (.cells #[.int .i64 (i : Nat)] 3) = w' := by
  go_enter Tryz.func47, Tryz.ntmps47
  go_wp2
  go_ret
  exact ⟨rfl, rfl⟩
set_option maxRecDepth 100000 in
set_option maxHeartbeats 4000000 in
theorem isEnd_any (al : Option Addr) (m capl : Nat) (iv : Value) (lm : Nat → List UInt8) (lf : Nat → Int) (i : Nat) (w : World) (hL : LkAt w al m lm lf) (hm : m ≤ 1000) (hv : ∀ k, k < m → lf k < k ∧ -1 ≤ lf k) (hi : i < m) :
    Calls Tryz.prog 31 #[.agg #[.slice al m capl, iv], .int .i64 (i : Nat)] w fun e w' => e = .returned (.bool (enB m lf i)) ∧ Below w.heap.size w w' := by
  have HL := Lib.hid hL
  have HM := Lib.hid (fun W => under_mk (.slice al m capl) iv i W)
  clear hL
  refine (callsIn_wide (n := 6)).1 ?_
  refine callsIn_of_wp_marks Tryz.func31 rfl trivial ?_ rfl
  simp only [Tryz.ntmps31, List.size_toArray, List.length_cons, List.length_nil, Nat.reduceAdd, Nat.reduceSub, Array.replicate_succ, Array.replicate_zero, List.push_toArray, List.append_toArray, List.nil_append, List.cons_append]
  refine wpIn_wide.2 ?_
  go_wp2_with (go_at_call 47; refine (HM.out _).mono ?_; rintro e w9 ⟨rfl, rfl⟩)
  obtain ⟨W0, hW0⟩ : ∃ W0, (((w.alloc (.cells #[.slice al m capl, iv] 68)).alloc (.cells #[.bool false] 4)).alloc (.cells #[.slice al m capl, iv] 68)).alloc (.cells #[.int .i64 (i : Nat)] 3) = W0 := ⟨_, rfl⟩
  have B0 : Below w.heap.size w W0 := by rw [← hW0]; (repeat' (first | (with_reducible exact Below.refl _ _) | (with_reducible assumption) | (with_reducible refine Below.alloc ?_ ?_ _) | (with_reducible refine Below.drew ?_) | (with_reducible refine below_drewN ?_ _) | (with_reducible refine Below.setCell ?_ ?_ _) | (with_reducible refine below_after ?_ ?_ _) | (with_reducible refine below_set ?_) | (with_reducible refine After.size_le _ ?_) | (with_reducible refine size_alloc_le ?_) | (with_reducible refine size_set_le ?_) | (with_reducible refine size_drewN_le ?_) | go_size))
  have es : W0.heap.size = w.heap.size + 4 := by rw [← hW0]; simp
  have cl : W0.cell? ⟨w.heap.size + 1, 0, none⟩ = some (.bool false) := by rw [← hW0]; simp [go_sem]
  have fl : W0.frozen? ⟨w.heap.size + 1, 0, none⟩ = false := by rw [← hW0]; simp [go_sem]
  have cf : W0.cell? ⟨w.heap.size + 1 + 1 + 1, 0, none⟩ = some (.int .i64 (i : Nat)) := by rw [← hW0]; simp [go_sem]
  have cr : W0.cell? ⟨w.heap.size + 1 + 1, 0, none⟩ = some (.slice al m capl) := by rw [← hW0]; simp [go_sem]
  have HL0 := HL.out.on B0
  rw [hW0]
  clear hW0 HL HM
  refine wpIn_wide (n := 6).1 ?_
  refine wpIn_rangeFunc_f1 rfl (by omega) (gf := 60) (lb := #[.pointer (some ⟨w.heap.size + 1 + 1 + 1, 0, none⟩), .pointer (some ⟨w.heap.size + 1 + 1, 0, none⟩)]) rfl trivial (enters_of Tryz.func60 (by kernel_rfl) rfl)
    (O := fun _ => False) (M := fun j => j = w.heap.size + 1) (fun _ h => h.elim)
    (under1_f1 5 (by omega) (w.heap.size + 1 + 1 + 1) (w.heap.size + 1 + 1) al m capl lm lf _ W0 hm i hi cf cr HL0)
    (fun j h => by omega) (fun _ => rfl)
    (fun pre V => pre = [] ∧ V.cell? ⟨w.heap.size + 1, 0, none⟩ = some (.bool false) ∧ V.frozen? ⟨w.heap.size + 1, 0, none⟩ = false ∧ Below w.heap.size w V)
    (fun pre x A h => by have := h.1; simp at this)
    (fun c pre V => c = .ret ∧ V.cell? ⟨w.heap.size + 1, 0, none⟩ = some (.bool false) ∧ Below w.heap.size w V)
    (fun pre A A' hs hf => by
      obtain ⟨h0, h1, h2, h4⟩ := hs
      have nb : ∀ i, i < W0.heap.size → ¬ OwnM (fun _ => False) W0.heap.size (W0.heap.size + 2 + 0) A i := fun i hi h => by
        rcases h with h | ⟨h, _⟩
        · exact h
        · omega
      exact ⟨h0, hf.cell (p := ⟨w.heap.size + 1, 0, none⟩) (nb _ (by dsimp only; omega)) h1, (hf.frozen (p := ⟨w.heap.size + 1, 0, none⟩) (nb _ (by dsimp only; omega)) (World.block_lt_of_cell? A _ h1)).trans h2, h4.trans (hf.below h4.size (fun j hj => nb j (by omega)))⟩)
    (fun c pre A A' hs hf => by
      obtain ⟨h0, h1, h4⟩ := hs
      have nb : ∀ i, i < W0.heap.size → ¬ OwnM (fun _ => False) W0.heap.size (W0.heap.size + 2 + 0) A i := fun i hi h => by
        rcases h with h | ⟨h, _⟩
        · exact h
        · omega
      exact ⟨h0, hf.cell (p := ⟨w.heap.size + 1, 0, none⟩) (nb _ (by dsimp only; omega)) h1, h4.trans (hf.below h4.size (fun j hj => nb j (by omega)))⟩)
    ⟨rfl, cl, fl, B0⟩
    (fun x a' V => a' = { tmps := #[.agg #[.slice al m capl, iv], .int .i64 (i : Nat), .pointer (some ⟨w.heap.size, 0, none⟩), undef, .pointer (some ⟨w.heap.size + 1, 0, none⟩), .agg #[.slice al m capl, iv], .int .i64 (i : Nat), .func (.func 60) #[] #[.pointer (some ⟨w.heap.size + 1 + 1 + 1, 0, none⟩), .pointer (some ⟨w.heap.size + 1 + 1, 0, none⟩)], .int .i64 (x : Nat)], defers := [] })
    (fun x a' _ A A' hs hf => hs)
    ?assign ?body ?done ?stop
  case assign =>
    rintro l' pre x V K hnx hI hsz hK
    gi_wp2
    refine hK _ _ (Fr.refl V) hI ?_
    simp [go_sem]
  case body =>
    rintro l' pre x a' V ⟨r, hr⟩ hnx ⟨h0, h1, h2, h4⟩ rfl hsz
    have F4 : Fr (RndM NoZ (fun j => j = w.heap.size + 1) (W0.heap.size + 2 + 0) V) V (V.setCell ⟨w.heap.size + 1, 0, none⟩ (.bool false)) := Fr.setCell (Fr.refl V) (p := ⟨w.heap.size + 1, 0, none⟩) (.inl (.inl rfl)) _
    have HF4 := Lib.hid F4
    gi_wp2
    exact ⟨HF4.out, rfl, World.cell?_setCell_same _ _ _ h1, h4.setCell (by dsimp only; omega) _⟩
  case done =>
    rintro D ys V hD ⟨rfl, hS⟩ ⟨_, h1, h2, h4⟩ hK
    have HE := Lib.hid (enB_true (m := m) (lf := lf) (i := i) (fun k hk e => hS k (by have := (hv k hk).1; omega) hk e))
    have hK' : (V.setCell ⟨w.heap.size + 1, 0, none⟩ (.bool true)).heap[D]? = some (.deferred (some [])) := (Below.heap_setCell _ _ _ _ (by dsimp only; omega)).trans hK
    have fp : Fr (fun j => W0.heap.size ≤ j) (V.setCell ⟨w.heap.size + 1, 0, none⟩ (.bool true)) ((V.setCell ⟨w.heap.size + 1, 0, none⟩ (.bool true)).putObj D (.deferred none)) := (Fr.put _ D _).mono fun j _ e => by omega
    have c1 := fp.cell (p := ⟨w.heap.size + 1, 0, none⟩) (by dsimp only; omega) (World.cell?_setCell_same V ⟨w.heap.size + 1, 0, none⟩ (.bool true) h1)
    have hB5 : Below w.heap.size w (V.setCell ⟨w.heap.size + 1, 0, none⟩ (.bool true)) := h4.setCell (by dsimp only; omega) _
    have HBf := Lib.hid (hB5.trans (fp.below hB5.size (fun j h => by have := B0.size; omega)))
    have HC := Lib.hid c1
    clear c1 hB5 fp
    gi_wp2
    go_wp2
    refine ⟨by simp, .inl ⟨_, _, rfl, run_takeDeferred hK', ?_⟩⟩
    have c1 := HC.out
    exact ⟨.bool true, by simp [results, Tryz.results31, go_sem, c1], by rw [HE.out], HBf.out⟩
  case stop =>
    rintro D c pre V hD ⟨x, rfl, hx, hxe⟩ ⟨rfl, h1, h4⟩ hK
    have HE := Lib.hid (enB_false hx hxe)
    have fp : Fr (fun j => W0.heap.size ≤ j) V (V.putObj D (.deferred none)) := (Fr.put V D _).mono fun j _ e => by omega
    have c1 := fp.cell (p := ⟨w.heap.size + 1, 0, none⟩) (by dsimp only; omega) h1
    have HBf := Lib.hid (h4.trans (fp.below h4.size (fun j h => by have := B0.size; omega)))
    have HC := Lib.hid c1
    clear c1 fp
    gi_wp2
    refine ⟨by simp, .inl ⟨_, _, rfl, run_takeDeferred hK, ?_⟩⟩
    have c1 := HC.out
    exact ⟨.bool false, by simp [results, Tryz.results31, go_sem, c1], by rw [HE.out], HBf.out⟩
theorem vr_lt {n m : Nat} {gm lm : Nat → List UInt8} {lf : Nat → Int} (h : vrB n m gm lm lf = true) : ∀ k, k < m → lf k < k ∧ -1 ≤ lf k := fun k hk => by
  have h1 := ((vrB_of h).2 k hk).2.1
  unfold mhB at h1
  by_cases h0 : k = 0
  · rw [if_pos h0] at h1
    have := of_decide_eq_true h1
    omega
  · rw [if_neg h0] at h1
    simp at h1
    omega
set_option maxRecDepth 100000 in
set_option maxHeartbeats 1000000 in
theorem ends_any (al : Option Addr) (m capl : Nat) (iv : Value) (lm : Nat → List UInt8) (lf : Nat → Int) (w : World) (hL : LkAt w al m lm lf) (hm : m ≤ 1000) (hv : ∀ k, k < m → lf k < k ∧ -1 ≤ lf k) :
    Calls Tryz.prog 45 #[.agg #[.slice al m capl, iv]] w fun e w' => ∃ v, e = .returned v ∧ w'.ownsRow (w.heap.size + 1) 3 1 v (thN (enB m lf) m).length (ivs (thN (enB m lf) m)) ∧ Below w.heap.size w w' := by
  have HT := Lib.hid (fun W (hW : Below w.heap.size w W) => those_any 31 #[.agg #[.slice al m capl, iv]] #[] (enters_of Tryz.func31 (by kernel_rfl) rfl) m (enB m lf) W (by omega) (fun i hi W' hW' => isEnd_any al m capl iv lm lf i W' ((hL.on hW).on hW') hm hv hi))
  clear hL
  go_enter Tryz.func45, Tryz.ntmps45
  go_wp2_with fail
  refine (HT.out _ ((Below.refl _ w).alloc (Nat.le_refl _) _)).mono ?_
  rintro e w2 ⟨v, rfl, hO, hb2⟩
  have HO := Lib.hid hO
  have HB := Lib.hid (((Below.refl w.heap.size w).alloc (Nat.le_refl _) (.cells #[.slice al m capl, iv] 68)).trans (hb2.mono (by simp)))
  clear hO hb2
  go_wp2
  go_ret
  exact ⟨_, rfl, by simpa using HO.out, HB.out⟩
end Go.Proofs.YtkgfaemdgmmdkaaGreatDoor.Gx
