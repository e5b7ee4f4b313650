/- The iterator of beds: its contract. -/
import Derived.Test.YtplhbklfaokjbaaDoorBedm
import Derived.ControlIn
import Derived.Laws.EntriesVeiled
namespace Go.Proofs.YtplhbklfaokjbaaDoor
open Go.RowKit Go.Shelf
attribute [local go_sem] Oper.semAt_some

theorem backward_any (a : Option Addr) (n cap : Nat) (w : World) :
    Calls Tryd.prog 89 #[.slice a n cap] w fun e w' => e = .returned (.func (.func 95) #[] #[.pointer (some ⟨w.heap.size, 0, none⟩)]) ∧ w.alloc (.cells #[.slice a n cap] 22) = w' := by
  go_enter Tryd.func89, Tryd.ntmps89
  go_wp2
  go_ret
  exact ⟨rfl, rfl⟩
theorem beds_any (a : Option Addr) (n cap : Nat) (w : World) :
    Calls Tryd.prog 71 #[.slice a n cap] w fun e w' => e = .returned (.func (.func 88) #[] #[.pointer (some ⟨w.heap.size, 0, none⟩)]) ∧ w.alloc (.cells #[.slice a n cap] 22) = w' := by
  go_enter Tryd.func71, Tryd.ntmps71
  go_wp2
  go_ret
  exact ⟨rfl, rfl⟩
theorem roundIn_any {F : Fence} {n n' l f : Nat} {P : Program} {tmps : Array Value} {assign body : Code} {w : World} {R : Ending → World → Prop} (hd : F.depth = none) (h : RoundIn F n P l f tmps assign body w R) : RoundIn F n' P l f tmps assign body w R :=
  ⟨h.1, fun c cs _ => h.2 c cs (fun d hd' => by rw [hd] at hd'; cases hd')⟩

theorem bcellB {W W1 : World} (hb : Below W.heap.size W W1) : (∀ b o, b < W.heap.size → W1.cell? ⟨b, o, none⟩ = W.cell? ⟨b, o, none⟩) ∧ (∀ b o, b < W.heap.size → W1.frozen? ⟨b, o, none⟩ = W.frozen? ⟨b, o, none⟩) :=
  ⟨fun b o h => hb.cell (p := ⟨b, o, none⟩) h, fun b o h => hb.frozen (p := ⟨b, o, none⟩) h⟩

set_option maxRecDepth 100000 in
set_option maxHeartbeats 2000000 in
theorem beds1_fr (m : Nat) (hm : 3 ≤ m) (Bx b off cap n : Nat) (f : Nat → Nat → Int) (M : Nat → Prop) (w : World) (hM : ∀ i, M i → i < w.heap.size) (hMx : ¬ M Bx) (hMb : ¬ M b) (hG : GoodC n f)
    (hbw : b < w.heap.size) (hx : w.cell? ⟨Bx, 0, none⟩ = some (.slice (some ⟨b, off, none⟩) n cap)) (hC : CrCells w b off n f) :
    SeqFr Fence.wide m Tryd.prog 88 #[.pointer (some ⟨Bx, 0, none⟩)] (fun x : Ix n => #[(bI f n x.1).val]) M (nxt n) (fun ys => ys.map (·.1) = dn n 0) (fun pre => pre.map (·.1) <+: dn n 0) 5 w := by
  intro l J Jx W hW hl0 hl hJ hJx hY h0
  have hbx : Bx < w.heap.size := World.block_lt_of_cell? w _ hx
  have hx := (hW.cell (p := ⟨Bx, 0, none⟩) hbx).trans hx
  have hC := hC.on hbw hW
  have hS := hW.size
  have h60 := hG.2.1
  have HY := Lib.hid hY
  have HC := Lib.hid hC
  have HJ := Lib.hid hJ
  have HJx := Lib.hid hJx
  have H0 := Lib.hid h0
  clear hY hC hJ hJx h0 hW
  have hbxW : Bx < W.heap.size := by omega
  refine callsIn_of_wp_marks Tryd.func88 rfl trivial ?_ rfl
  simp only [Tryd.ntmps88, List.size_toArray, List.length_cons, List.length_nil, Nat.reduceAdd, Nat.reduceSub, Array.replicate_succ, Array.replicate_zero, List.push_toArray, List.append_toArray, List.nil_append, List.cons_append]
  refine wpIn_wide.2 ?_
  go_wp2_with (go_at_call 89; refine (backward_any _ _ _ _).mono ?_; rintro e w1 ⟨rfl, rfl⟩)
  have hbW : b < W.heap.size := by omega
  have FrA : Fr (OwnM W.heap.size (W.heap.size + 5) W) W (((W.alloc (.cells #[.func (.yield l) #[] #[]] 100)).alloc (.cells #[.int .i64 0, .int .i64 0, .int .i64 0, .int .i64 0, .int .i64 0, .int .i64 0, .int .i64 0, .int .i64 0, .int .i64 0, .int .i64 0, .int .i64 0, .int .i64 0] 64)).alloc (.cells #[.slice (some ⟨b, off, none⟩) n cap] 22)) := (((Fr.refl W).alloc _).alloc _).alloc _
  have q1 : (((W.alloc (.cells #[.func (.yield l) #[] #[]] 100)).alloc (.cells #[.int .i64 0, .int .i64 0, .int .i64 0, .int .i64 0, .int .i64 0, .int .i64 0, .int .i64 0, .int .i64 0, .int .i64 0, .int .i64 0, .int .i64 0, .int .i64 0] 64)).alloc (.cells #[.slice (some ⟨b, off, none⟩) n cap] 22)).cell? ⟨W.heap.size, 0, none⟩ = some (.func (.yield l) #[] #[]) := by simp [go_sem]
  have q2 : BedCells (((W.alloc (.cells #[.func (.yield l) #[] #[]] 100)).alloc (.cells #[.int .i64 0, .int .i64 0, .int .i64 0, .int .i64 0, .int .i64 0, .int .i64 0, .int .i64 0, .int .i64 0, .int .i64 0, .int .i64 0, .int .i64 0, .int .i64 0] 64)).alloc (.cells #[.slice (some ⟨b, off, none⟩) n cap] 22)) (W.heap.size + 1) zbed := by
    refine ⟨?_, ?_, ?_, ?_, ?_, ?_, ?_, ?_, ?_, ?_, ?_, ?_, fun o => ?_⟩
    all_goals simp [go_sem, zbed]
  have q3 : (((W.alloc (.cells #[.func (.yield l) #[] #[]] 100)).alloc (.cells #[.int .i64 0, .int .i64 0, .int .i64 0, .int .i64 0, .int .i64 0, .int .i64 0, .int .i64 0, .int .i64 0, .int .i64 0, .int .i64 0, .int .i64 0, .int .i64 0] 64)).alloc (.cells #[.slice (some ⟨b, off, none⟩) n cap] 22)).cell? ⟨W.heap.size + 1 + 1, 0, none⟩ = some (.slice (some ⟨b, off, none⟩) n cap) := by simp [go_sem]
  have hsz : (((W.alloc (.cells #[.func (.yield l) #[] #[]] 100)).alloc (.cells #[.int .i64 0, .int .i64 0, .int .i64 0, .int .i64 0, .int .i64 0, .int .i64 0, .int .i64 0, .int .i64 0, .int .i64 0, .int .i64 0, .int .i64 0, .int .i64 0] 64)).alloc (.cells #[.slice (some ⟨b, off, none⟩) n cap] 22)).heap.size = W.heap.size + 3 := by simp
  obtain ⟨W0, hW0⟩ : ∃ W0, (((W.alloc (.cells #[.func (.yield l) #[] #[]] 100)).alloc (.cells #[.int .i64 0, .int .i64 0, .int .i64 0, .int .i64 0, .int .i64 0, .int .i64 0, .int .i64 0, .int .i64 0, .int .i64 0, .int .i64 0, .int .i64 0, .int .i64 0] 64)).alloc (.cells #[.slice (some ⟨b, off, none⟩) n cap] 22)) = W0 := ⟨_, rfl⟩
  rw [hW0] at FrA q1 q2 q3 hsz ⊢
  clear hW0
  have J0 := HJ.out [] W W0 H0.out FrA
  have C0 := HC.out.fr FrA (fun h => by have := h.1; omega)
  have sub : ∀ (A : World) (i : Nat), OwnM W0.heap.size (W0.heap.size + 2 + 0) A i → OwnM W.heap.size (W.heap.size + 5) A i := fun A i h => ⟨by have := h.1; omega, by rcases h.2 with h2 | h2; exact .inl (by omega); exact .inr h2⟩
  refine wpIn_wide (n := m).1 ?_
  refine wpIn_rangeFunc_fr rfl (by omega) (gf := 95) (lb := #[.pointer (some ⟨W.heap.size + 1 + 1, 0, none⟩)]) rfl trivial (enters_of Tryd.func95 (by kernel_rfl) rfl)
    (M := fun i => M i ∨ i = l ∨ i = W.heap.size + 1)
    (backward1_fr Fence.wide (m - 1) trivial rfl (by omega) (W.heap.size + 1 + 1) b off cap n f _ (fun h => by rcases h with h | h | h; have := hM _ h; omega; omega; omega) (fun h => by rcases h with h | h | h; exact hMb h; omega; omega) W0 (by omega) (by omega) q3 C0)
    (fun i h => by rcases h with h | h | h; have := hM _ h; omega; omega; omega) (fun _ => rfl)
    (fun pre V => J pre V ∧ BedCells V (W.heap.size + 1) (bI f n (n - pre.length)) ∧ V.cell? ⟨W.heap.size, 0, none⟩ = some (.func (.yield l) #[] #[]))
    (fun c pre V => c = .ret ∧ Jx pre V)
    (fun s A A' hs hf => ⟨HJ.out s A A' hs.1 (hf.mono fun i _ h => sub A i h), hs.2.1.fr hf (fun h => by have := h.1; omega), hf.cell (p := ⟨W.heap.size, 0, none⟩) (fun h => by have := h.1; dsimp only at this; omega) hs.2.2⟩)
    (fun c s A A' hs hf => ⟨hs.1, HJx.out s A A' hs.2 (hf.mono fun i _ h => sub A i h)⟩)
    ⟨J0, by rw [show n - ([] : List (Ix n)).length = n by simp, bI_top]; exact q2, q1⟩
    (fun x a' V => ∃ Bc, W.heap.size + 5 ≤ Bc ∧ (∀ j, j < 6 → V.cell? ⟨Bc, j, none⟩ = some (.int .i64 (f x.1 j))) ∧ a' = { tmps := #[.func (.yield l) #[] #[], .pointer (some ⟨Bx, 0, none⟩), .pointer (some ⟨W.heap.size, 0, none⟩), .pointer (some ⟨W.heap.size + 1, 0, none⟩), .int .i64 (x.1 : Nat), .pointer (some ⟨Bc, 0, none⟩), .slice (some ⟨b, off, none⟩) n cap, .func (.func 95) #[] #[.pointer (some ⟨W.heap.size + 1 + 1, 0, none⟩)], .int .i64 (x.1 : Nat), crV (f x.1), undef, undef, undef, undef, undef, undef, undef, undef], defers := [] })
    (fun x a' _ A A' hs hf => by
      obtain ⟨Bc, h1, h2, h3⟩ := hs
      refine ⟨Bc, h1, fun j hj => hf.cell (p := ⟨Bc, j, none⟩) (fun h => ?_) (h2 j hj), h3⟩
      rcases h.2 with h4 | ⟨o, h4, h5⟩
      · dsimp only at h4; omega
      · obtain ⟨o', h6, h7⟩ := cells_of_cell (h2 j hj)
        rw [h6] at h4; cases h4; rw [h7] at h5; cases h5)
    ?assign ?body ?done ?stop
  case assign =>
    rintro l' pre x V K hnx ⟨hj, hbed, hyc⟩ hsz' hK
    unfold crV at *
    gi_wp2
    refine hK _ _ ((Fr.refl V).alloc _) ⟨HJ.out pre V _ hj ((Fr.refl V).alloc _), hbed.fr (M := fun _ => False) ((Fr.refl V).alloc _) id, keep_alloc hyc⟩ ⟨V.heap.size, by omega, fun j hj => ?_, rfl⟩
    rcases (show j = 0 ∨ j = 1 ∨ j = 2 ∨ j = 3 ∨ j = 4 ∨ j = 5 by omega) with rfl | rfl | rfl | rfl | rfl | rfl
    all_goals simp [go_sem]
  case body =>
    rintro l' pre x a' V ⟨r, hr⟩ hnx ⟨hj, hbed, hyc⟩ ⟨Bc, hBc, hcc, rfl⟩ hsz'
    obtain ⟨k, hkn⟩ := x
    have hlen : n - pre.length = k + 1 := by
      have := congrArg List.length hnx
      simp [dn_len] at this
      omega
    rw [hlen] at hbed
    have HBl := Lib.hid hbed
    obtain ⟨b1, b2, b3, b4, b5, b6, b7, b8, b9, b10⟩ := bI_bd hG (k := k + 1) (by omega)
    have hOk := hG.2.2 k hkn
    have hnext := bI_next (f := f) hkn
    have HO : Hid (∀ W', Calls Tryd.prog 90 #[(bI f n (k + 1)).val, .int .i64 (k : Nat), crV (f k)] W' fun e w' => e = .returned (bI f n k).val ∧ Below W'.heap.size W' w') := fun W' => by
      rw [hnext]
      exact onto_any _ _ _ _ _ _ _ _ _ _ _ _ _ _ _ _ _ _ _ W' hOk ⟨by omega, by omega⟩ ⟨by omega, by omega⟩ ⟨by omega, by omega⟩ ⟨by omega, by omega⟩ ⟨by omega, by omega⟩
    have HYk : Hid (∀ X, J pre X → W.heap.size + 5 ≤ X.heap.size → YieldAt Fence.wide (m - 1) Tryd.prog l #[(bI f n k).val] X fun e W' =>
      Fr (fun i => i = l ∨ RndM M (W.heap.size + 5) X i) X W' ∧ ((e = .returned (.bool true) ∧ J (pre ++ [⟨k, hkn⟩]) W') ∨ (e = .returned (.bool false) ∧ Jx (pre ++ [⟨k, hkn⟩]) W'))) := fun X h1 h2 => HY.out pre ⟨k, hkn⟩ X hnx h1 h2
    have hV1 := hbed.lt
    have hV2 : Bc < V.heap.size := World.block_lt_of_cell? V _ (hcc 0 (by omega))
    have hV3 : W.heap.size < V.heap.size := by omega
    have hlen2 : n - (pre ++ [(⟨k, hkn⟩ : Ix n)]).length = k := by simp; omega
    have g0 := hcc 0 (by omega)
    have g1 := hcc 1 (by omega)
    have g2 := hcc 2 (by omega)
    have g3 := hcc 3 (by omega)
    have g4 := hcc 4 (by omega)
    have g5 := hcc 5 (by omega)
    have HV : Hid (bI f n (n - (pre ++ [(⟨k, hkn⟩ : Ix n)]).length) = bI f n k) := Lib.hid (by rw [hlen2])
    clear hnext hOk b1 b2 b3 b4 b5 b6 b7 b8 b9 b10 hlen hcc hlen2 HY
    generalize bI f n (k + 1) = B0 at *
    generalize bI f n k = v at *
    obtain ⟨c0, c1, c2, c3, c4, c5, c6, c7, c8, c9, c10, c11, cf⟩ := hbed
    simp only [BedV.val, crV] at HO
    unfold crV
    gi_wp2
    refine ⟨trivial, fun _ => by omega, (CallsIn.inRound l' (callsIn_wide.2 (HO.out _))).mono ?_⟩
    rintro e w1 ⟨rfl, hw1⟩
    obtain ⟨hc1, hf1⟩ := bcellB hw1
    obtain ⟨fn, tmps, assign, body, hy, hR⟩ := HYk.out (setBed w1 (W.heap.size + 1) v) (HJ.out pre V _ hj (setBed_fr ((Fr.refl V).call hw1) ⟨by omega, .inl (by omega)⟩)) (by rw [setBed_size]; have := hw1.size; omega)
    have HR := Lib.hid hR
    have HW1 := Lib.hid hw1
    clear hR hw1
    simp only [BedV.val] at hy
    unfold setBed at hy
    gi_wp2
    have FX : Fr (RndM (fun i => M i ∨ i = l ∨ i = W.heap.size + 1) (W0.heap.size + 2 + 0) V) V (setBed w1 (W.heap.size + 1) v) := setBed_fr ((Fr.refl V).call HW1.out) (.inl (.inr (.inr rfl)))
    have BX : BedCells (setBed w1 (W.heap.size + 1) v) (W.heap.size + 1) v := setBed_cells (HBl.out.fr (M := fun _ => False) ((Fr.refl V).call HW1.out) id)
    have YX : (setBed w1 (W.heap.size + 1) v).cell? ⟨W.heap.size, 0, none⟩ = some (.func (.yield l) #[] #[]) := (setBed_other (p := ⟨W.heap.size, 0, none⟩) (by simp)).trans ((hc1 _ _ hV3).trans hyc)
    have SX : V.heap.size ≤ (setBed w1 (W.heap.size + 1) v).heap.size := by rw [setBed_size]; exact HW1.out.size
    refine ⟨fun _ => by omega, RoundIn.mono (show RoundIn (Fence.wide.inRound l') _ _ _ _ _ _ _ _ _ from roundIn_any (F := Fence.wide) rfl HR.out) ?_⟩
    clear HR hy
    generalize setBed w1 (W.heap.size + 1) v = X at *
    rintro e W3 ⟨hf, hq⟩
    have FW : Fr (RndM (fun i => M i ∨ i = l ∨ i = W.heap.size + 1) (W0.heap.size + 2 + 0) V) V W3 := FX.then hf (fun i hi hn e hm => by
      rcases hm with h | h | ⟨h1, h2⟩
      · exact hn (.inl (.inr (.inl h)))
      · exact hn (.inl (.inl h))
      · exact hn (.inr ⟨by omega, by rw [← e]; exact h2⟩))
    have nB : ∀ i, W.heap.size ≤ i → i < W.heap.size + 5 → ¬ (i = l ∨ RndM M (W.heap.size + 5) X i) := fun i h1 h2 hm => by
      rcases hm with h | h | ⟨h3, _⟩
      · omega
      · have := hM _ h; omega
      · omega
    rcases hq with ⟨rfl, hJ4⟩ | ⟨rfl, hJx3⟩
    · gi_wp2
      exact ⟨FW, hJ4, by rw [HV.out]; exact BX.fr hf (nB _ (by omega) (by omega)), hf.cell (p := ⟨W.heap.size, 0, none⟩) (nB _ (by simp) (by simp)) YX⟩
    · gi_wp2
      exact ⟨FW, rfl, hJx3⟩
  case done =>
    rintro D ys X hD hys ⟨hj, _, _⟩ hK
    gi_wp2
    go_wp2
    have fp : Fr (OwnM W.heap.size (W.heap.size + 5) X) X (X.putObj D (.deferred none)) := (Fr.put X D _).mono fun i hi e => by subst e; exact ⟨by omega, .inr ⟨_, hK, rfl⟩⟩
    refine ⟨by simp, .inl ⟨_, _, rfl, run_takeDeferred hK, ?_⟩⟩
    exact ⟨_, results_none rfl _ _ _, ⟨_, rfl⟩, .inl ⟨ys, hys, HJ.out ys X _ hj fp⟩⟩
  case stop =>
    rintro D c pre X hD hSp ⟨rfl, hjx⟩ hK
    gi_wp2
    have fp : Fr (OwnM W.heap.size (W.heap.size + 5) X) X (X.putObj D (.deferred none)) := (Fr.put X D _).mono fun i hi e => by subst e; exact ⟨by omega, .inr ⟨_, hK, rfl⟩⟩
    refine ⟨by simp, .inl ⟨_, _, rfl, run_takeDeferred hK, ?_⟩⟩
    exact ⟨_, results_none rfl _ _ _, ⟨_, rfl⟩, .inr ⟨pre, hSp, HJx.out pre X _ hjx fp⟩⟩
end Go.Proofs.YtplhbklfaokjbaaDoor
