/- The arm of a bed, in parts; the table of the winds. The bed of the course with an index. The iterator of beds: its contract. -/
import Derived.Test.YtcaelmaoldmgpaaDoorCrBedm
import Derived.ControlIn
import Derived.Laws.EntriesVeiled
import Derived.Test.YtcaelmaoldmgpaaDoorCrSrat
namespace Go.Proofs.YtcaelmaoldmgpaaDoor.Cr
open Go.Proofs.YtcaelmaoldmgpaaDoor
open Go.RowKit Go.Shelf
attribute [local go_sem] Oper.semAt_some

theorem backward_any (a : Option Addr) (n cap : Nat) (w : World) :
    Calls Tryd.prog 102 #[.slice a n cap] w fun e w' => e = .returned (.func (.func 117) #[] #[.pointer (some ⟨w.heap.size, 0, none⟩)]) ∧ w.alloc (.cells #[.slice a n cap] 22) = w' := by
  go_enter Tryd.func102, Tryd.ntmps102
  go_wp2
  go_ret
  exact ⟨rfl, rfl⟩
theorem beds_any (a : Option Addr) (n cap : Nat) (w : World) :
    Calls Tryd.prog 87 #[.slice a n cap] w fun e w' => e = .returned (.func (.func 101) #[] #[.pointer (some ⟨w.heap.size, 0, none⟩)]) ∧ w.alloc (.cells #[.slice a n cap] 22) = w' := by
  go_enter Tryd.func87, Tryd.ntmps87
  go_wp2
  go_ret
  exact ⟨rfl, rfl⟩
theorem roundIn_any {F : Fence} {n n' l f : Nat} {P : Program} {tmps : Array Value} {assign body : Code} {w : World} {R : Ending → World → Prop} (hd : F.depth = none) (h : RoundIn F n P l f tmps assign body w R) : RoundIn F n' P l f tmps assign body w R :=
  ⟨h.1, fun c cs _ => h.2 c cs (fun d hd' => by rw [hd] at hd'; cases hd')⟩

theorem bcellB {W W1 : World} (hb : Below W.heap.size W W1) : (∀ b o, b < W.heap.size → W1.cell? ⟨b, o, none⟩ = W.cell? ⟨b, o, none⟩) ∧ (∀ b o, b < W.heap.size → W1.frozen? ⟨b, o, none⟩ = W.frozen? ⟨b, o, none⟩) :=
  ⟨fun b o h => hb.cell (p := ⟨b, o, none⟩) h, fun b o h => hb.frozen (p := ⟨b, o, none⟩) h⟩

set_option maxRecDepth 100000 in
set_option maxHeartbeats 2000000 in
theorem beds1_fr (m : Nat) (hm : 3 ≤ m) (Bx b off cap n : Nat) (f : Nat → Nat → Int) (M : Nat → Prop) (w : World) (hM : ∀ i, M i → i < w.heap.size) (_hMx : ¬ M Bx) (hMb : ¬ M b) (hG : GoodC n f)
    (hbw : b < w.heap.size) (hx : w.cell? ⟨Bx, 0, none⟩ = some (.slice (some ⟨b, off, none⟩) n cap)) (hC : CrCells w b off n f) :
    SeqFr Fence.wide m Tryd.prog 101 #[.pointer (some ⟨Bx, 0, none⟩)] (fun x : Ix n => #[(bI f n x.1).val]) M (nxt n) (fun ys => ys.map (·.1) = dn n 0) (fun pre => pre.map (·.1) <+: dn n 0) 5 w := by
  intro l J Jx W hW hl0 hl hJ hJx hY h0
  have hbx : Bx < w.heap.size := World.block_lt_of_cell? w _ hx
  have hx := (hW.cell (p := ⟨Bx, 0, none⟩) hbx).trans hx
  have hC := hC.on hbw hW
  have hS := hW.size
  have h60 := hG.2.1
  have HY := Lib.hid hY
  have HC := Lib.hid hC
  have HJ := Lib.hid hJ
  have HJx := Lib.hid hJx
  have H0 := Lib.hid h0
  clear hY hC hJ hJx h0 hW
  have hbxW : Bx < W.heap.size := by omega
  refine callsIn_of_wp_marks Tryd.func101 rfl trivial ?_ rfl
  simp only [Tryd.ntmps101, List.size_toArray, List.length_cons, List.length_nil, Nat.reduceAdd, Nat.reduceSub, Array.replicate_succ, Array.replicate_zero, List.push_toArray, List.append_toArray, List.nil_append, List.cons_append]
  refine wpIn_wide.2 ?_
  go_wp2_with (go_at_call 102; refine (backward_any _ _ _ _).mono ?_; rintro e w1 ⟨rfl, rfl⟩)
  have hbW : b < W.heap.size := by omega
  have FrA : Fr (OwnM W.heap.size (W.heap.size + 5) W) W (((W.alloc (.cells #[.func (.yield l) #[] #[]] 138)).alloc (.cells #[.int .i64 0, .int .i64 0, .int .i64 0, .int .i64 0, .int .i64 0, .int .i64 0, .int .i64 0, .int .i64 0, .int .i64 0, .int .i64 0, .int .i64 0, .int .i64 0] 83)).alloc (.cells #[.slice (some ⟨b, off, none⟩) n cap] 22)) := (((Fr.refl W).alloc _).alloc _).alloc _
  have q1 : (((W.alloc (.cells #[.func (.yield l) #[] #[]] 138)).alloc (.cells #[.int .i64 0, .int .i64 0, .int .i64 0, .int .i64 0, .int .i64 0, .int .i64 0, .int .i64 0, .int .i64 0, .int .i64 0, .int .i64 0, .int .i64 0, .int .i64 0] 83)).alloc (.cells #[.slice (some ⟨b, off, none⟩) n cap] 22)).cell? ⟨W.heap.size, 0, none⟩ = some (.func (.yield l) #[] #[]) := by simp [go_sem]
  have q2 : BedCells (((W.alloc (.cells #[.func (.yield l) #[] #[]] 138)).alloc (.cells #[.int .i64 0, .int .i64 0, .int .i64 0, .int .i64 0, .int .i64 0, .int .i64 0, .int .i64 0, .int .i64 0, .int .i64 0, .int .i64 0, .int .i64 0, .int .i64 0] 83)).alloc (.cells #[.slice (some ⟨b, off, none⟩) n cap] 22)) (W.heap.size + 1) zbed := by
    refine ⟨?_, ?_, ?_, ?_, ?_, ?_, ?_, ?_, ?_, ?_, ?_, ?_, fun o => ?_⟩
    all_goals simp [go_sem, zbed]
  have q3 : (((W.alloc (.cells #[.func (.yield l) #[] #[]] 138)).alloc (.cells #[.int .i64 0, .int .i64 0, .int .i64 0, .int .i64 0, .int .i64 0, .int .i64 0, .int .i64 0, .int .i64 0, .int .i64 0, .int .i64 0, .int .i64 0, .int .i64 0] 83)).alloc (.cells #[.slice (some ⟨b, off, none⟩) n cap] 22)).cell? ⟨W.heap.size + 1 + 1, 0, none⟩ = some (.slice (some ⟨b, off, none⟩) n cap) := by simp [go_sem]
  have hsz : (((W.alloc (.cells #[.func (.yield l) #[] #[]] 138)).alloc (.cells #[.int .i64 0, .int .i64 0, .int .i64 0, .int .i64 0, .int .i64 0, .int .i64 0, .int .i64 0, .int .i64 0, .int .i64 0, .int .i64 0, .int .i64 0, .int .i64 0] 83)).alloc (.cells #[.slice (some ⟨b, off, none⟩) n cap] 22)).heap.size = W.heap.size + 3 := by simp
  obtain ⟨W0, hW0⟩ : ∃ W0, (((W.alloc (.cells #[.func (.yield l) #[] #[]] 138)).alloc (.cells #[.int .i64 0, .int .i64 0, .int .i64 0, .int .i64 0, .int .i64 0, .int .i64 0, .int .i64 0, .int .i64 0, .int .i64 0, .int .i64 0, .int .i64 0, .int .i64 0] 83)).alloc (.cells #[.slice (some ⟨b, off, none⟩) n cap] 22)) = W0 := ⟨_, rfl⟩
  rw [hW0] at FrA q1 q2 q3 hsz ⊢
  clear hW0
  have J0 := HJ.out [] W W0 H0.out FrA
  have C0 := HC.out.fr FrA (fun h => by have := h.1; omega)
  have sub : ∀ (A : World) (i : Nat), OwnM W0.heap.size (W0.heap.size + 2 + 0) A i → OwnM W.heap.size (W.heap.size + 5) A i := fun A i h => ⟨by have := h.1; omega, by rcases h.2 with h2 | h2; exact .inl (by omega); exact .inr h2⟩
  refine wpIn_wide (n := m).1 ?_
  refine wpIn_rangeFunc_fr rfl (by omega) (gf := 117) (lb := #[.pointer (some ⟨W.heap.size + 1 + 1, 0, none⟩)]) rfl trivial (enters_of Tryd.func117 (by kernel_rfl) rfl)
    (M := fun i => M i ∨ i = l ∨ i = W.heap.size + 1)
    (backward1_fr Fence.wide (m - 1) trivial rfl (by omega) (W.heap.size + 1 + 1) b off cap n f _ (fun h => by rcases h with h | h | h; have := hM _ h; omega; omega; omega) (fun h => by rcases h with h | h | h; exact hMb h; omega; omega) W0 (by omega) (by omega) q3 C0)
    (fun i h => by rcases h with h | h | h; have := hM _ h; omega; omega; omega) (fun _ => rfl)
    (fun pre V => J pre V ∧ BedCells V (W.heap.size + 1) (bI f n (n - pre.length)) ∧ V.cell? ⟨W.heap.size, 0, none⟩ = some (.func (.yield l) #[] #[]))
    (fun c pre V => c = .ret ∧ Jx pre V)
    (fun s A A' hs hf => ⟨HJ.out s A A' hs.1 (hf.mono fun i _ h => sub A i h), hs.2.1.fr hf (fun h => by have := h.1; omega), hf.cell (p := ⟨W.heap.size, 0, none⟩) (fun h => by have := h.1; dsimp only at this; omega) hs.2.2⟩)
    (fun c s A A' hs hf => ⟨hs.1, HJx.out s A A' hs.2 (hf.mono fun i _ h => sub A i h)⟩)
    ⟨J0, by rw [show n - ([] : List (Ix n)).length = n by simp, bI_top]; exact q2, q1⟩
    (fun x a' V => ∃ Bc, W.heap.size + 5 ≤ Bc ∧ (∀ j, j < 6 → V.cell? ⟨Bc, j, none⟩ = some (.int .i64 (f x.1 j))) ∧ a' = { tmps := #[.func (.yield l) #[] #[], .pointer (some ⟨Bx, 0, none⟩), .pointer (some ⟨W.heap.size, 0, none⟩), .pointer (some ⟨W.heap.size + 1, 0, none⟩), .int .i64 (x.1 : Nat), .pointer (some ⟨Bc, 0, none⟩), .slice (some ⟨b, off, none⟩) n cap, .func (.func 117) #[] #[.pointer (some ⟨W.heap.size + 1 + 1, 0, none⟩)], .int .i64 (x.1 : Nat), crV (f x.1), undef, undef, undef, undef, undef, undef, undef, undef], defers := [] })
    (fun x a' _ A A' hs hf => by
      obtain ⟨Bc, h1, h2, h3⟩ := hs
      refine ⟨Bc, h1, fun j hj => hf.cell (p := ⟨Bc, j, none⟩) (fun h => ?_) (h2 j hj), h3⟩
      rcases h.2 with h4 | ⟨o, h4, h5⟩
      · dsimp only at h4; omega
      · obtain ⟨o', h6, h7⟩ := cells_of_cell (h2 j hj)
        rw [h6] at h4; cases h4; rw [h7] at h5; cases h5)
    ?assign ?body ?done ?stop
  case assign =>
    rintro l' pre x V K hnx ⟨hj, hbed, hyc⟩ hsz' hK
    unfold crV at *
    gi_wp2
    refine hK _ _ ((Fr.refl V).alloc _) ⟨HJ.out pre V _ hj ((Fr.refl V).alloc _), hbed.fr (M := fun _ => False) ((Fr.refl V).alloc _) id, keep_alloc hyc⟩ ⟨V.heap.size, by omega, fun j hj => ?_, rfl⟩
    rcases (show j = 0 ∨ j = 1 ∨ j = 2 ∨ j = 3 ∨ j = 4 ∨ j = 5 by omega) with rfl | rfl | rfl | rfl | rfl | rfl
    all_goals simp [go_sem]
  case body =>
    rintro l' pre x a' V ⟨r, hr⟩ hnx ⟨hj, hbed, hyc⟩ ⟨Bc, hBc, hcc, rfl⟩ hsz'
    obtain ⟨k, hkn⟩ := x
    have hlen : n - pre.length = k + 1 := by
      have := congrArg List.length hnx
      simp [dn_len] at this
      omega
    rw [hlen] at hbed
    have HBl := Lib.hid hbed
    obtain ⟨b1, b2, b3, b4, b5, b6, b7, b8, b9, b10⟩ := bI_bd hG (k := k + 1) (by omega)
    have hOk := hG.2.2 k hkn
    have hnext := bI_next (f := f) hkn
    have HO : Hid (∀ W', Calls Tryd.prog 103 #[(bI f n (k + 1)).val, .int .i64 (k : Nat), crV (f k)] W' fun e w' => e = .returned (bI f n k).val ∧ Below W'.heap.size W' w') := fun W' => by
      rw [hnext]
      exact onto_any _ _ _ _ _ _ _ _ _ _ _ _ _ _ _ _ _ _ _ W' hOk ⟨by omega, by omega⟩ ⟨by omega, by omega⟩ ⟨by omega, by omega⟩ ⟨by omega, by omega⟩ ⟨by omega, by omega⟩
    have HYk : Hid (∀ X, J pre X → W.heap.size + 5 ≤ X.heap.size → YieldAt Fence.wide (m - 1) Tryd.prog l #[(bI f n k).val] X fun e W' =>
      Fr (fun i => i = l ∨ RndM M (W.heap.size + 5) X i) X W' ∧ ((e = .returned (.bool true) ∧ J (pre ++ [⟨k, hkn⟩]) W') ∨ (e = .returned (.bool false) ∧ Jx (pre ++ [⟨k, hkn⟩]) W'))) := fun X h1 h2 => HY.out pre ⟨k, hkn⟩ X hnx h1 h2
    have hV1 := hbed.lt
    have hV2 : Bc < V.heap.size := World.block_lt_of_cell? V _ (hcc 0 (by omega))
    have hV3 : W.heap.size < V.heap.size := by omega
    have hlen2 : n - (pre ++ [(⟨k, hkn⟩ : Ix n)]).length = k := by simp; omega
    have g0 := hcc 0 (by omega)
    have g1 := hcc 1 (by omega)
    have g2 := hcc 2 (by omega)
    have g3 := hcc 3 (by omega)
    have g4 := hcc 4 (by omega)
    have g5 := hcc 5 (by omega)
    have HV : Hid (bI f n (n - (pre ++ [(⟨k, hkn⟩ : Ix n)]).length) = bI f n k) := Lib.hid (by rw [hlen2])
    clear hnext hOk b1 b2 b3 b4 b5 b6 b7 b8 b9 b10 hlen hcc hlen2 HY
    generalize bI f n (k + 1) = B0 at *
    generalize bI f n k = v at *
    obtain ⟨c0, c1, c2, c3, c4, c5, c6, c7, c8, c9, c10, c11, cf⟩ := hbed
    simp only [BedV.val, crV] at HO
    unfold crV
    gi_wp2
    refine ⟨trivial, fun _ => by omega, (CallsIn.inRound l' (callsIn_wide.2 (HO.out _))).mono ?_⟩
    rintro e w1 ⟨rfl, hw1⟩
    obtain ⟨hc1, hf1⟩ := bcellB hw1
    obtain ⟨fn, tmps, assign, body, hy, hR⟩ := HYk.out (setBed w1 (W.heap.size + 1) v) (HJ.out pre V _ hj (setBed_fr ((Fr.refl V).call hw1) ⟨by omega, .inl (by omega)⟩)) (by rw [setBed_size]; have := hw1.size; omega)
    have HR := Lib.hid hR
    have HW1 := Lib.hid hw1
    clear hR hw1
    simp only [BedV.val] at hy
    unfold setBed at hy
    gi_wp2
    have FX : Fr (RndM (fun i => M i ∨ i = l ∨ i = W.heap.size + 1) (W0.heap.size + 2 + 0) V) V (setBed w1 (W.heap.size + 1) v) := setBed_fr ((Fr.refl V).call HW1.out) (.inl (.inr (.inr rfl)))
    have BX : BedCells (setBed w1 (W.heap.size + 1) v) (W.heap.size + 1) v := setBed_cells (HBl.out.fr (M := fun _ => False) ((Fr.refl V).call HW1.out) id)
    have YX : (setBed w1 (W.heap.size + 1) v).cell? ⟨W.heap.size, 0, none⟩ = some (.func (.yield l) #[] #[]) := (setBed_other (p := ⟨W.heap.size, 0, none⟩) (by simp)).trans ((hc1 _ _ hV3).trans hyc)
    have SX : V.heap.size ≤ (setBed w1 (W.heap.size + 1) v).heap.size := by rw [setBed_size]; exact HW1.out.size
    refine ⟨fun _ => by omega, RoundIn.mono (show RoundIn (Fence.wide.inRound l') _ _ _ _ _ _ _ _ _ from roundIn_any (F := Fence.wide) rfl HR.out) ?_⟩
    clear HR hy
    generalize setBed w1 (W.heap.size + 1) v = X at *
    rintro e W3 ⟨hf, hq⟩
    have FW : Fr (RndM (fun i => M i ∨ i = l ∨ i = W.heap.size + 1) (W0.heap.size + 2 + 0) V) V W3 := FX.then hf (fun i hi hn e hm => by
      rcases hm with h | h | ⟨h1, h2⟩
      · exact hn (.inl (.inr (.inl h)))
      · exact hn (.inl (.inl h))
      · exact hn (.inr ⟨by omega, by rw [← e]; exact h2⟩))
    have nB : ∀ i, W.heap.size ≤ i → i < W.heap.size + 5 → ¬ (i = l ∨ RndM M (W.heap.size + 5) X i) := fun i h1 h2 hm => by
      rcases hm with h | h | ⟨h3, _⟩
      · omega
      · have := hM _ h; omega
      · omega
    rcases hq with ⟨rfl, hJ4⟩ | ⟨rfl, hJx3⟩
    · gi_wp2
      exact ⟨FW, hJ4, by rw [HV.out]; exact BX.fr hf (nB _ (by omega) (by omega)), hf.cell (p := ⟨W.heap.size, 0, none⟩) (nB _ (by simp) (by simp)) YX⟩
    · gi_wp2
      exact ⟨FW, rfl, hJx3⟩
  case done =>
    rintro D ys X hD hys ⟨hj, _, _⟩ hK
    gi_wp2
    go_wp2
    have fp : Fr (OwnM W.heap.size (W.heap.size + 5) X) X (X.putObj D (.deferred none)) := (Fr.put X D _).mono fun i hi e => by subst e; exact ⟨by omega, .inr ⟨_, hK, rfl⟩⟩
    refine ⟨by simp, .inl ⟨_, _, rfl, run_takeDeferred hK, ?_⟩⟩
    exact ⟨_, results_none rfl _ _ _, ⟨_, rfl⟩, .inl ⟨ys, hys, HJ.out ys X _ hj fp⟩⟩
  case stop =>
    rintro D c pre X hD hSp ⟨rfl, hjx⟩ hK
    gi_wp2
    have fp : Fr (OwnM W.heap.size (W.heap.size + 5) X) X (X.putObj D (.deferred none)) := (Fr.put X D _).mono fun i hi e => by subst e; exact ⟨by omega, .inr ⟨_, hK, rfl⟩⟩
    refine ⟨by simp, .inl ⟨_, _, rfl, run_takeDeferred hK, ?_⟩⟩
    exact ⟨_, results_none rfl _ _ _, ⟨_, rfl⟩, .inr ⟨pre, hSp, HJx.out pre X _ hjx fp⟩⟩
end Go.Proofs.YtcaelmaoldmgpaaDoor.Cr
namespace Go.Proofs.YtcaelmaoldmgpaaDoor.Cr
open Go.Proofs.YtcaelmaoldmgpaaDoor
open Go.RowKit Go.Shelf
attribute [local go_sem] Oper.semAt_some

/-- What bedAt hands back of a good stack. -/
def bdV (f : Nat → Nat → Int) (n : Nat) (i : Int) : BedV := if 0 ≤ i ∧ i < n then bI f n i.toNat else zbed
def bdE (n : Nat) (i : Int) : Int := if 0 ≤ i ∧ i < n then 0 else 7
theorem zero_cells (W : World) (B : Nat) (hB : W.heap[B]? = some (.cells #[.int .i64 0, .int .i64 0, .int .i64 0, .int .i64 0, .int .i64 0, .int .i64 0, .int .i64 0, .int .i64 0, .int .i64 0, .int .i64 0, .int .i64 0, .int .i64 0] 83 (0, 0))) : BedCells W B zbed := by
  have c : ∀ j, j < 12 → W.cell? ⟨B, j, none⟩ = some (.int .i64 0) := fun j hj => by
    rcases (show j = 0 ∨ j = 1 ∨ j = 2 ∨ j = 3 ∨ j = 4 ∨ j = 5 ∨ j = 6 ∨ j = 7 ∨ j = 8 ∨ j = 9 ∨ j = 10 ∨ j = 11 by omega) with rfl | rfl | rfl | rfl | rfl | rfl | rfl | rfl | rfl | rfl | rfl | rfl
    all_goals exact cell_of_row W B _ _ _ _ hB
  exact ⟨c 0 (by omega), c 1 (by omega), c 2 (by omega), c 3 (by omega), c 4 (by omega), c 5 (by omega), c 6 (by omega), c 7 (by omega), c 8 (by omega), c 9 (by omega), c 10 (by omega), c 11 (by omega), fun o => by simp [World.frozen?, hB]⟩

/-- The call's own boxes behind a call. -/
theorem own_boxes (i : Int) (w w1 : World) (hb : Below ((((w.alloc (.cells #[.int .i64 i] 3)).alloc (.cells #[.int .i64 0, .int .i64 0, .int .i64 0, .int .i64 0, .int .i64 0, .int .i64 0, .int .i64 0, .int .i64 0, .int .i64 0, .int .i64 0, .int .i64 0, .int .i64 0] 83)).alloc (.cells #[.int .i64 0] 24))).heap.size
      (((w.alloc (.cells #[.int .i64 i] 3)).alloc (.cells #[.int .i64 0, .int .i64 0, .int .i64 0, .int .i64 0, .int .i64 0, .int .i64 0, .int .i64 0, .int .i64 0, .int .i64 0, .int .i64 0, .int .i64 0, .int .i64 0] 83)).alloc (.cells #[.int .i64 0] 24)) w1) :
    Below w.heap.size w w1 ∧ w.heap.size + 3 ≤ w1.heap.size ∧ w1.cell? ⟨w.heap.size, 0, none⟩ = some (.int .i64 i) ∧ BedCells w1 (w.heap.size + 1) zbed ∧ w1.cell? ⟨w.heap.size + 1 + 1, 0, none⟩ = some (.int .i64 0) ∧ w1.frozen? ⟨w.heap.size + 1 + 1, 0, none⟩ = false := by
  have hf : Fr (fun _ => False) _ w1 := fr_below hb
  have hs := hb.size
  simp only [World.size_alloc] at hs
  refine ⟨(by (repeat' (first | (with_reducible exact Below.refl _ _) | (with_reducible assumption) | (with_reducible refine Below.alloc ?_ ?_ _) | (with_reducible refine Below.drew ?_) | (with_reducible refine below_drewN ?_ _) | (with_reducible refine Below.setCell ?_ ?_ _) | (with_reducible refine below_after ?_ ?_ _) | (with_reducible refine below_set ?_) | (with_reducible refine After.size_le _ ?_) | (with_reducible refine size_alloc_le ?_) | (with_reducible refine size_set_le ?_) | (with_reducible refine size_drewN_le ?_) | go_size)) : Below w.heap.size w _).trans (hb.mono (by simp; omega)), by omega, hf.cell id (by simp [go_sem]), BedCells.fr (zero_cells _ _ ?_) hf id, hf.cell id (by simp [go_sem]), (hf.frozen (p := ⟨w.heap.size + 1 + 1, 0, none⟩) id (by simp)).trans (by simp [go_sem])⟩
  have := heap_alloc_new (w.alloc (.cells #[.int .i64 i] 3)) (.cells #[.int .i64 0, .int .i64 0, .int .i64 0, .int .i64 0, .int .i64 0, .int .i64 0, .int .i64 0, .int .i64 0, .int .i64 0, .int .i64 0, .int .i64 0, .int .i64 0] 83)
  rw [World.size_alloc] at this
  exact (Below.heap_alloc _ _ _ (by simp)).trans this

/-- The results in their boxes. -/
theorem bed_out {X : World} {B E : Nat} {v : BedV} {e : Int} {t0 t1 t2 t3 t6 t7 t8 t9 t10 t11 t12 t13 t14 t15 t16 t17 t18 t19 : Value} (h : BedCells X B v) (he : X.cell? ⟨E, 0, none⟩ = some (.int .i64 e)) :
    (results Tryd.f67 #[t0, t1, t2, t3, (.pointer (some ⟨B, 0, none⟩)), (.pointer (some ⟨E, 0, none⟩)), t6, t7, t8, t9, t10, t11, t12, t13, t14, t15, t16, t17, t18, t19]).run Tryd.prog X = .ok (.tuple #[v.val, .int .i64 e]) X := by
  obtain ⟨c0, c1, c2, c3, c4, c5, c6, c7, c8, c9, c10, c11, _⟩ := h
  simp [results, Tryd.results67, go_sem, *, BedV.val]

set_option maxRecDepth 100000 in
set_option maxHeartbeats 1000000 in
theorem bedAt_bad (a : Option Addr) (n cap : Nat) (i : Int) (w : World) (hv : CSay w (.slice a n cap) false) :
    Calls Tryd.prog 67 #[.slice a n cap, .int .i64 i] w fun e w' => e = .returned (.tuple #[zbed.val, .int .i64 1]) ∧ Below w.heap.size w w' := by
  have HV : Hid (∀ W, Below w.heap.size w W → _) := hv
  clear hv
  go_enter Tryd.func67, Tryd.ntmps67
  go_wp2_with fail
  refine (HV.out _ (by (repeat' (first | (with_reducible exact Below.refl _ _) | (with_reducible assumption) | (with_reducible refine Below.alloc ?_ ?_ _) | (with_reducible refine Below.drew ?_) | (with_reducible refine below_drewN ?_ _) | (with_reducible refine Below.setCell ?_ ?_ _) | (with_reducible refine below_after ?_ ?_ _) | (with_reducible refine below_set ?_) | (with_reducible refine After.size_le _ ?_) | (with_reducible refine size_alloc_le ?_) | (with_reducible refine size_set_le ?_) | (with_reducible refine size_drewN_le ?_) | go_size)))).mono ?_
  rintro e w1 ⟨rfl, hb⟩
  obtain ⟨q1, q2, q3, q4, q5, q6⟩ := own_boxes i w w1 hb
  have B4 := Lib.hid q4
  obtain ⟨c0, c1, c2, c3, c4, c5, c6, c7, c8, c9, c10, c11, cf⟩ := q4
  simp only [zbed] at c0 c1 c2 c3 c4 c5 c6 c7 c8 c9 c10 c11
  have B1 := Lib.hid q1
  clear hb q1
  go_wp2
  obtain ⟨X, hX⟩ : ∃ X, (setBed w1 (w.heap.size + 1) zbed).setCell ⟨w.heap.size + 1 + 1, 0, none⟩ (.int .i64 1) = X := ⟨_, rfl⟩
  have hx1 : BedCells X (w.heap.size + 1) zbed := by
    rw [← hX]
    exact (setBed_cells B4.out).fr (M := fun i => w.heap.size + 1 + 1 ≤ i) ((Fr.refl _).setCell (p := ⟨w.heap.size + 1 + 1, 0, none⟩) (.inl (by simp)) _) (by omega)
  have hx2 : X.cell? ⟨w.heap.size + 1 + 1, 0, none⟩ = some (.int .i64 1) := by
    rw [← hX]
    exact World.cell?_setCell_same' _ _ _ (by rw [setBed_other (by simp), q5]; rfl)
  have hx3 : Below w.heap.size w X := by
    rw [← hX]
    exact (B1.out.trans ((setBed_fr (M := fun i => w.heap.size ≤ i) (Fr.refl w1) (by omega)).below (by omega) (fun i h => by omega))).setCell (by simp; omega) _
  unfold setBed zbed at hX
  dsimp only at hX
  rw [hX]
  clear hX
  refine bodyPost_ret (bed_out hx1 hx2) rfl ⟨rfl, hx3⟩

theorem new_bed (V : World) (v : BedV) : BedCells (V.alloc (.cells #[.int .i64 v.ix, .int .i64 (v.c 0), .int .i64 (v.c 1), .int .i64 (v.c 2), .int .i64 (v.c 3), .int .i64 (v.c 4), .int .i64 (v.c 5), .int .i64 v.wt, .int .i64 v.ea, .int .i64 v.no, .int .i64 v.fa, .int .i64 v.pu] 83)) V.heap.size v := by
  refine ⟨?_, ?_, ?_, ?_, ?_, ?_, ?_, ?_, ?_, ?_, ?_, ?_, fun o => ?_⟩
  all_goals simp [go_sem]
theorem dn_mem {n k : Nat} (h : k < n) : k ∈ dn n 0 := by
  unfold dn
  exact List.mem_map.2 ⟨n - 1 - k, by simp; omega, by omega⟩
theorem bed_kept {B C : Nat} {A A' : World} {Bb : Nat} {v : BedV} (h : BedCells A Bb v) (hf : Fr (OwnM B C A) A A') (hb : C ≤ Bb) : BedCells A' Bb v := h.fr hf (fun hm => by
  rcases hm.2 with h4 | ⟨o, h4, h5⟩
  · omega
  · obtain ⟨o', h6, h7⟩ := cells_of_cell h.1
    rw [h6] at h4; cases h4; rw [h7] at h5; cases h5)

set_option maxRecDepth 100000 in
set_option maxHeartbeats 2000000 in
theorem bedAt_ok (b off cap n : Nat) (f : Nat → Nat → Int) (i : Int) (w : World) (hb : b < w.heap.size) (hc : CrCells w b off n f) (hG : GoodC n f) (hv : CSay w (.slice (some ⟨b, off, none⟩) n cap) true) :
    Calls Tryd.prog 67 #[.slice (some ⟨b, off, none⟩) n cap, .int .i64 i] w fun e w' => e = .returned (.tuple #[(bdV f n i).val, .int .i64 (bdE n i)]) ∧ Below w.heap.size w w' := by
  have HV : Hid (∀ W, Below w.heap.size w W → _) := hv
  have HG := Lib.hid hG
  have HC := Lib.hid hc
  clear hv hG hc
  refine (callsIn_wide (n := 6)).1 ?_
  refine callsIn_of_wp_marks Tryd.func67 rfl trivial ?_ rfl
  simp only [Tryd.ntmps67, List.size_toArray, List.length_cons, List.length_nil, Nat.reduceAdd, Nat.reduceSub, Array.replicate_succ, Array.replicate_zero, List.push_toArray, List.append_toArray, List.nil_append, List.cons_append]
  refine wpIn_wide.2 ?_
  go_wp2_with fail
  refine (HV.out _ (by (repeat' (first | (with_reducible exact Below.refl _ _) | (with_reducible assumption) | (with_reducible refine Below.alloc ?_ ?_ _) | (with_reducible refine Below.drew ?_) | (with_reducible refine below_drewN ?_ _) | (with_reducible refine Below.setCell ?_ ?_ _) | (with_reducible refine below_after ?_ ?_ _) | (with_reducible refine below_set ?_) | (with_reducible refine After.size_le _ ?_) | (with_reducible refine size_alloc_le ?_) | (with_reducible refine size_set_le ?_) | (with_reducible refine size_drewN_le ?_) | go_size)))).mono ?_
  rintro e w1 ⟨rfl, hb1⟩
  obtain ⟨q1, q2, q3, q4, q5, q6⟩ := own_boxes i w w1 hb1
  clear hb1
  have Q := Lib.hid (And.intro q1 (And.intro q3 (And.intro q4 (And.intro q5 q6))))
  clear q1 q3 q4 q5 q6
  go_wp2_with (go_at_call 87; refine (beds_any _ _ _ _).mono ?_; rintro e w2 ⟨rfl, rfl⟩)
  obtain ⟨q1, q3, q4, q5, q6⟩ := Q.out
  have fa : Fr (fun _ => False) w1 (w1.alloc (.cells #[.slice (some ⟨b, off, none⟩) n cap] 22)) := (Fr.refl w1).alloc _
  have B0 : Below w.heap.size w (w1.alloc (.cells #[.slice (some ⟨b, off, none⟩) n cap] 22)) := q1.alloc q1.size _
  have e3 := fa.cell id q3
  have e4 := q4.fr fa id
  have e5 := fa.cell id q5
  have e6 := (fa.frozen (p := ⟨w.heap.size + 1 + 1, 0, none⟩) id (by simp; omega)).trans q6
  have ex : (w1.alloc (.cells #[.slice (some ⟨b, off, none⟩) n cap] 22)).cell? ⟨w1.heap.size, 0, none⟩ = some (.slice (some ⟨b, off, none⟩) n cap) := by simp [go_sem]
  have es : (w1.alloc (.cells #[.slice (some ⟨b, off, none⟩) n cap] 22)).heap.size = w1.heap.size + 1 := by simp
  obtain ⟨W0, hW0⟩ : ∃ W0, w1.alloc (.cells #[.slice (some ⟨b, off, none⟩) n cap] 22) = W0 := ⟨_, rfl⟩
  rw [hW0] at fa B0 e3 e4 e5 e6 ex es ⊢
  clear hW0 fa q1 q3 q4 q5 q6 Q HV
  have C0 := HC.out.on hb B0
  have box : ∀ V, Below W0.heap.size W0 V → V.cell? ⟨w.heap.size, 0, none⟩ = some (.int .i64 i) ∧ BedCells V (w.heap.size + 1) zbed ∧ V.cell? ⟨w.heap.size + 1 + 1, 0, none⟩ = some (.int .i64 0) ∧ V.frozen? ⟨w.heap.size + 1 + 1, 0, none⟩ = false := fun V hB =>
    ⟨(hB.cell (p := ⟨w.heap.size, 0, none⟩) (by simp; omega)).trans e3, e4.fr (M := fun j => W0.heap.size ≤ j) (V := V) ⟨hB.os, hB.tape, hB.output, hB.size, fun j _ hn => hB.block j (by omega)⟩ (by omega),
      (hB.cell (p := ⟨w.heap.size + 1 + 1, 0, none⟩) (by simp; omega)).trans e5, (hB.frozen (p := ⟨w.heap.size + 1 + 1, 0, none⟩) (by simp; omega)).trans e6⟩
  have outX : ∀ (V : World) (v : BedV) (e : Int), Below W0.heap.size W0 V → ∃ X, (setBed V (w.heap.size + 1) v).setCell ⟨w.heap.size + 1 + 1, 0, none⟩ (.int .i64 e) = X ∧ BedCells X (w.heap.size + 1) v ∧ X.cell? ⟨w.heap.size + 1 + 1, 0, none⟩ = some (.int .i64 e) ∧ Below w.heap.size w X ∧ (∀ M : Nat → Prop, M (w.heap.size + 1) → M (w.heap.size + 1 + 1) → Fr M V X) := fun V v e hB => by
    obtain ⟨f3, f4, f5, f6⟩ := box V hB
    have hfr : ∀ M : Nat → Prop, M (w.heap.size + 1) → M (w.heap.size + 1 + 1) → Fr M V ((setBed V (w.heap.size + 1) v).setCell ⟨w.heap.size + 1 + 1, 0, none⟩ (.int .i64 e)) := fun M h1 h2 => (setBed_fr (Fr.refl V) h1).setCell (.inl h2) _
    refine ⟨_, rfl, (setBed_cells f4).fr (M := fun i => w.heap.size + 1 + 1 ≤ i) ((Fr.refl _).setCell (p := ⟨w.heap.size + 1 + 1, 0, none⟩) (.inl (by simp)) _) (by omega), World.cell?_setCell_same' _ _ _ (by rw [setBed_other (by simp), f5]; rfl), ?_, hfr⟩
    exact (B0.trans (hB.mono B0.size)).trans ((hfr (fun i => w.heap.size ≤ i) (by omega) (by omega)).below (by have := B0.size; have := hB.size; omega) (fun i h => by omega))
  refine wpIn_wide (n := 6).1 ?_
  refine wpIn_rangeFunc_fr rfl (by omega) (gf := 101) (lb := #[.pointer (some ⟨w1.heap.size, 0, none⟩)]) rfl trivial (enters_of Tryd.func101 (by kernel_rfl) rfl)
    (M := fun j => j = w.heap.size + 1 ∨ j = w.heap.size + 1 + 1)
    (beds1_fr 5 (by omega) w1.heap.size b off cap n f _ W0 (fun j h => by omega) (fun h => by omega) (fun h => by omega) HG.out (by omega) ex C0)
    (fun j h => by omega) (fun _ => rfl)
    (fun pre V => (∀ y ∈ pre, (y.1 : Int) ≠ i) ∧ Below W0.heap.size W0 V)
    (fun c pre V => c = .ret ∧ ∃ x : Ix n, (x.1 : Int) = i ∧ BedCells V (w.heap.size + 1) (bI f n x.1) ∧ V.cell? ⟨w.heap.size + 1 + 1, 0, none⟩ = some (.int .i64 0) ∧ Below w.heap.size w V)
    (Bides.and (bides_pure _ _ (fun pre : List (Ix n) => ∀ y ∈ pre, (y.1 : Int) ≠ i)) (bides_below (Nat.le_refl _) (Nat.le_refl _)))
    (fun c s A A' hs hf => by
      obtain ⟨h1, x, h2, h3, h4, h5⟩ := hs
      exact ⟨h1, x, h2, h3.fr hf (fun h => by have := h.1; omega), hf.cell (p := ⟨w.heap.size + 1 + 1, 0, none⟩) (fun h => by have := h.1; dsimp only at this; omega) h4, h5.trans (hf.below (by have := h5.size; omega) (fun j hj h => by have := h.1; omega))⟩)
    ⟨by simp, Below.refl _ _⟩
    (fun x a' V => ∃ Bb, W0.heap.size + 2 + 5 ≤ Bb ∧ BedCells V Bb (bI f n x.1) ∧ a' = { tmps := #[.slice (some ⟨b, off, none⟩) n cap, .int .i64 i, undef, .pointer (some ⟨w.heap.size, 0, none⟩), .pointer (some ⟨w.heap.size + 1, 0, none⟩), .pointer (some ⟨w.heap.size + 1 + 1, 0, none⟩), .pointer (some ⟨Bb, 0, none⟩), .slice (some ⟨b, off, none⟩) n cap, .bool true, .bool false, undef, .slice (some ⟨b, off, none⟩) n cap, .func (.func 101) #[] #[.pointer (some ⟨w1.heap.size, 0, none⟩)], (bI f n x.1).val, undef, undef, undef, undef, undef, undef], defers := [] })
    (fun x a' _ A A' hs hf => by
      obtain ⟨Bb, h1, h2, h3⟩ := hs
      exact ⟨Bb, h1, bed_kept h2 hf h1, h3⟩)
    ?assign ?body ?done ?stop
  case assign =>
    rintro l' pre x V K hnx ⟨hp, hB⟩ hsz hK
    simp only [BedV.val]
    gi_wp2
    exact hK _ _ ((Fr.refl V).alloc _) ⟨hp, hB.alloc hB.size _⟩ ⟨V.heap.size, by omega, new_bed V _, rfl⟩
  case body =>
    rintro l' pre x a' V ⟨r, hr⟩ hnx ⟨hp, hB⟩ ⟨Bb, hBb, hbd, rfl⟩ hsz
    obtain ⟨k, hkn⟩ := x
    have hix := (bI_ix (f := f) hkn).1
    obtain ⟨f3, f4, f5, f6⟩ := box V hB
    have BB := Lib.hid f4
    generalize hgv : bI f n k = v at *
    obtain ⟨c0, c1, c2, c3, c4, c5, c6, c7, c8, c9, c10, c11, cf⟩ := hbd
    obtain ⟨z0, z1, z2, z3, z4, z5, z6, z7, z8, z9, z10, z11, zf⟩ := f4
    simp only [zbed] at z0 z1 z2 z3 z4 z5 z6 z7 z8 z9 z10 z11
    rw [hix] at c0
    simp only [BedV.val]
    by_cases hik : (k : Int) = i
    · have d1 : ((k : Int) == i) = true := by simpa using hik
      obtain ⟨X, hX, x1, x2, x3, x4⟩ := outX V v 0 hB
      have HIK := Lib.hid hik
      clear hik
      gi_wp2
      unfold setBed at hX
      rw [hix] at hX
      rw [hX]
      exact ⟨x4 _ (.inl (.inl rfl)) (.inl (.inr rfl)), rfl, ⟨k, hkn⟩, HIK.out, by rw [hgv]; exact x1, x2, x3⟩
    · have d1 : ((k : Int) == i) = false := beq_eq_false_iff_ne.2 hik
      gi_wp2
      exact ⟨Fr.refl V, fun y hy => by
        rcases List.mem_append.1 hy with h | h
        · exact hp y h
        · rw [List.mem_singleton.1 h]; exact hik, hB⟩
  case done =>
    rintro D ys V hD hys ⟨hp, hB⟩ hK
    have hno : ¬ (0 ≤ i ∧ i < n) := fun h => by
      have hm := dn_mem (n := n) (k := i.toNat) (by omega)
      rw [← hys] at hm
      obtain ⟨y, h1, h2⟩ := List.mem_map.1 hm
      exact hp y h1 (by omega)
    have e1 : bdV f n i = zbed := if_neg hno
    have e2 : bdE n i = 7 := if_neg hno
    obtain ⟨f3, f4, f5, f6⟩ := box V hB
    obtain ⟨X, hX, x1, x2, x3, x4⟩ := outX V zbed 7 hB
    obtain ⟨z0, z1, z2, z3, z4, z5, z6, z7, z8, z9, z10, z11, zf⟩ := f4
    simp only [zbed] at z0 z1 z2 z3 z4 z5 z6 z7 z8 z9 z10 z11
    have hKX : X.heap[D]? = some (.deferred (some [])) := ((x4 (fun j => j < W0.heap.size) (by omega) (by omega)).same D (Array.getElem?_eq_some_iff.1 hK).1 (by omega)).trans hK
    clear x4
    have E1 := Lib.hid e1
    have E2 := Lib.hid e2
    clear e1 e2
    gi_wp2
    go_wp2
    unfold setBed zbed at hX
    dsimp only at hX
    rw [hX]
    clear hX
    refine ⟨by simp, .inl ⟨_, _, rfl, run_takeDeferred hKX, ?_⟩⟩
    have fp : Fr (fun j => W0.heap.size ≤ j) X (X.putObj D (.deferred none)) := (Fr.put X D _).mono fun j _ e => by omega
    exact ⟨_, bed_out (x1.fr fp (by omega)) (fp.cell (p := ⟨w.heap.size + 1 + 1, 0, none⟩) (by simp; omega) x2), by rw [E1.out, E2.out], x3.trans (fp.below (by have := x3.size; omega) (fun j h => by omega))⟩
  case stop =>
    rintro D c pre X hD hSp ⟨rfl, x, h2, h3, h4, h5⟩ hK
    obtain ⟨k, hkn⟩ := x
    dsimp only at h2 h3
    have hyes : 0 ≤ i ∧ i < n := by omega
    have e1 : bdV f n i = bI f n k := by unfold bdV; rw [if_pos hyes, show i.toNat = k by omega]
    have e2 : bdE n i = 0 := if_pos hyes
    gi_wp2
    refine ⟨by simp, .inl ⟨_, _, rfl, run_takeDeferred hK, ?_⟩⟩
    have fp : Fr (fun j => W0.heap.size ≤ j) X (X.putObj D (.deferred none)) := (Fr.put X D _).mono fun j _ e => by omega
    exact ⟨_, bed_out (h3.fr fp (by omega)) (fp.cell (p := ⟨w.heap.size + 1 + 1, 0, none⟩) (by simp; omega) h4), by rw [e1, e2], h5.trans (fp.below (by have := h5.size; omega) (fun j h => by omega))⟩
end Go.Proofs.YtcaelmaoldmgpaaDoor.Cr
namespace Go.Proofs.YtcaelmaoldmgpaaDoor.Cr
open Go.Proofs.YtcaelmaoldmgpaaDoor
open Go.RowKit
attribute [local go_sem] After.cell After.frozen After.lt After.le After.ne After.ne' After.set_eq After.size_set After.lt_add

def awE (s : Nat) : Int := if s = 0 then -1 else if s = 2 then 1 else 0
def awN (s : Nat) : Int := if s = 1 then -1 else if s = 3 then 1 else 0
/-- The table of the winds lies in its variable. -/
def Tab (W : World) : Prop := ∀ s, s < 4 → W.cell? ⟨0, s * 2, none⟩ = some (.int .i64 (awE s)) ∧ W.cell? ⟨0, s * 2 + 1, none⟩ = some (.int .i64 (awN s))
theorem Tab.on {w W : World} (h : Tab w) (hW : Below w.heap.size w W) : Tab W := fun s hs => by
  have h0 : (0 : Nat) < w.heap.size := World.block_lt_of_cell? w ⟨0, 0, none⟩ (h 0 (by omega)).1
  exact ⟨(hW.cell (p := ⟨0, _, none⟩) h0).trans (h s hs).1, (hW.cell (p := ⟨0, _, none⟩) h0).trans (h s hs).2⟩
theorem Tab.lt {w : World} (h : Tab w) : 0 < w.heap.size := World.block_lt_of_cell? w ⟨0, 0, none⟩ (h 0 (by omega)).1
theorem aw_bd (s : Nat) : -1 ≤ awE s ∧ awE s ≤ 1 ∧ -1 ≤ awN s ∧ awN s ≤ 1 := by
  unfold awE awN
  refine ⟨?_, ?_, ?_, ?_⟩ <;> (repeat' split) <;> omega

def amE (v : BedV) (p : Int) (s : Nat) : Int := (v.ea - v.wt * v.c 4) * 9810000 + awE s * p * v.pu
def amN (v : BedV) (p : Int) (s : Nat) : Int := (v.no - v.wt * v.c 5) * 9810000 + awN s * p * v.pu
/-- The numbers of a bed of a good stack. -/
def InB (v : BedV) : Prop := 1 ≤ v.wt ∧ v.wt ≤ 60000000 ∧ -300000000000 ≤ v.ea ∧ v.ea ≤ 300000000000 ∧ -300000000000 ≤ v.no ∧ v.no ≤ 300000000000 ∧ 0 ≤ v.pu ∧ v.pu ≤ 145200000000000 ∧ -5000 ≤ v.c 4 ∧ v.c 4 ≤ 5000 ∧ -5000 ≤ v.c 5 ∧ v.c 5 ≤ 5000
theorem inB_bI {f : Nat → Nat → Int} {n k : Nat} (hG : GoodC n f) (hk : k < n) : InB (bI f n k) := by
  obtain ⟨h1, h2, h3, h4, h5, h6, h7, h8, h9, h10⟩ := bI_bd hG (k := k) (by omega)
  have hc := (bI_ix (f := f) hk).2
  have hO := hG.2.2 k hk
  unfold OkC InCr at hO
  unfold InB
  rw [hc]
  omega
theorem am_bd {v : BedV} {p : Int} (s : Nat) (h : InB v) (h0 : 0 ≤ p) (h1 : p ≤ 10000) :
    (-600000000000 ≤ v.ea - v.wt * v.c 4 ∧ v.ea - v.wt * v.c 4 ≤ 600000000000) ∧ (-600000000000 ≤ v.no - v.wt * v.c 5 ∧ v.no - v.wt * v.c 5 ≤ 600000000000) ∧
    (-300000000000 ≤ v.wt * v.c 4 ∧ v.wt * v.c 4 ≤ 300000000000) ∧ (-300000000000 ≤ v.wt * v.c 5 ∧ v.wt * v.c 5 ≤ 300000000000) ∧
    (-10000 ≤ awE s * p ∧ awE s * p ≤ 10000) ∧ (-10000 ≤ awN s * p ∧ awN s * p ≤ 10000) ∧ (-1452000000000000000 ≤ awE s * p * v.pu ∧ awE s * p * v.pu ≤ 1452000000000000000) ∧ (-1452000000000000000 ≤ awN s * p * v.pu ∧ awN s * p * v.pu ≤ 1452000000000000000) ∧
    (-7400000000000000000 ≤ amE v p s ∧ amE v p s ≤ 7400000000000000000) ∧ (-7400000000000000000 ≤ amN v p s ∧ amN v p s ≤ 7400000000000000000) := by
  obtain ⟨b1, b2, b3, b4, b5, b6, b7, b8, b9, b10, b11, b12⟩ := h
  obtain ⟨a1, a2, a3, a4⟩ := aw_bd s
  obtain ⟨m1, m2⟩ := prod_bd (a := v.wt) (b := v.c 4) (A := 60000000) (B := 5000) (by omega) (by omega) (by omega) (by omega)
  obtain ⟨m3, m4⟩ := prod_bd (a := v.wt) (b := v.c 5) (A := 60000000) (B := 5000) (by omega) (by omega) (by omega) (by omega)
  obtain ⟨m5, m6⟩ := prod_bd (a := awE s) (b := p) (A := 1) (B := 10000) (by omega) (by omega) (by omega) (by omega)
  obtain ⟨m7, m8⟩ := prod_bd (a := awN s) (b := p) (A := 1) (B := 10000) (by omega) (by omega) (by omega) (by omega)
  simp only [Int.reduceMul, Int.reduceNeg] at m1 m2 m3 m4 m5 m6 m7 m8
  obtain ⟨m9, m10⟩ := prod_bd (a := awE s * p) (b := v.pu) (A := 10000) (B := 145200000000000) (by omega) (by omega) (by omega) (by omega)
  obtain ⟨m11, m12⟩ := prod_bd (a := awN s * p) (b := v.pu) (A := 10000) (B := 145200000000000) (by omega) (by omega) (by omega) (by omega)
  simp only [Int.reduceMul, Int.reduceNeg] at m9 m10 m11 m12
  unfold amE amN
  omega

set_option maxRecDepth 100000 in
set_option maxHeartbeats 1000000 in
theorem arm_any (v : BedV) (p : Int) (s : Nat) (w : World) (hT : Tab w) (h : InB v) (hs : s < 4) (h0 : 0 ≤ p) (h1 : p ≤ 10000) :
    Calls Tryd.prog 40 #[v.val, .int .i64 p, .int .i64 s] w fun e w' => e = .returned (.tuple #[.int .i64 (amE v p s), .int .i64 (amN v p s)]) ∧ Below w.heap.size w w' := by
  obtain ⟨⟨m1, m2⟩, ⟨m3, m4⟩, ⟨m5, m6⟩, ⟨m7, m8⟩, ⟨m9, m10⟩, ⟨m11, m12⟩, ⟨m13, m14⟩, ⟨m15, m16⟩, ⟨m17, m18⟩, m19, m20⟩ := am_bd s h h0 h1
  obtain ⟨b1, b2, b3, b4, b5, b6, b7, b8, b9, b10, b11, b12⟩ := h
  obtain ⟨t1, t2⟩ := hT s hs
  have ht := hT.lt
  obtain ⟨a1, a2, a3, a4⟩ := aw_bd s
  have hs4 : (s : Int) < 4 := by omega
  unfold amE amN at *
  simp only [BedV.val]
  generalize awE s = E at *
  generalize awN s = N at *
  clear hT
  go_enter Tryd.func40, Tryd.ntmps40
  go_wp2
  go_returns
  exact ⟨rfl, by (repeat' (first | (with_reducible exact Below.refl _ _) | (with_reducible assumption) | (with_reducible refine Below.alloc ?_ ?_ _) | (with_reducible refine Below.drew ?_) | (with_reducible refine below_drewN ?_ _) | (with_reducible refine Below.setCell ?_ ?_ _) | (with_reducible refine below_after ?_ ?_ _) | (with_reducible refine below_set ?_) | (with_reducible refine After.size_le _ ?_) | (with_reducible refine size_alloc_le ?_) | (with_reducible refine size_set_le ?_) | (with_reducible refine size_drewN_le ?_) | go_size))⟩
set_option maxRecDepth 100000 in
set_option maxHeartbeats 1000000 in
theorem parts_any (v : BedV) (w : World) (h : InB v) :
    Calls Tryd.prog 42 #[v.val] w fun e w' => e = .returned (.int .i64 (9810000 * v.wt)) ∧ Below w.heap.size w w' := by
  obtain ⟨b1, b2, b3, b4, b5, b6, b7, b8, b9, b10, b11, b12⟩ := h
  simp only [BedV.val]
  go_enter Tryd.func42, Tryd.ntmps42
  go_wp2
  go_ret
  exact ⟨rfl, by (repeat' (first | (with_reducible exact Below.refl _ _) | (with_reducible assumption) | (with_reducible refine Below.alloc ?_ ?_ _) | (with_reducible refine Below.drew ?_) | (with_reducible refine below_drewN ?_ _) | (with_reducible refine Below.setCell ?_ ?_ _) | (with_reducible refine below_after ?_ ?_ _) | (with_reducible refine below_set ?_) | (with_reducible refine After.size_le _ ?_) | (with_reducible refine size_alloc_le ?_) | (with_reducible refine size_set_le ?_) | (with_reducible refine size_drewN_le ?_) | go_size))⟩
def WindOk (p s : Int) : Prop := Btw p 0 10000 ∧ Btw s 0 3
instance (p s : Int) : Decidable (WindOk p s) := by unfold WindOk; infer_instance
theorem validWind_any (p s : Int) (w : World) :
    Calls Tryd.prog 68 #[.int .i64 p, .int .i64 s] w fun e w' => e = .returned (.bool (decide (WindOk p s))) ∧ Below w.heap.size w w' := by
  have H1 := Lib.hid (between_any p 0 10000)
  have H2 := Lib.hid (between_any s 0 3)
  by_cases hp : Btw p 0 10000
  · rw [decide_eq_true hp] at H1
    have e : decide (WindOk p s) = decide (Btw s 0 3) := decide_eq_decide.2 ⟨fun h => h.2, fun h => ⟨hp, h⟩⟩
    rw [e]
    generalize decide (Btw s 0 3) = t at *
    clear hp e
    go_enter Tryd.func68, Tryd.ntmps68
    go_wp2_with fail
    refine calls_after (H1.out _) ?_
    intro x1
    go_wp2_with fail
    refine calls_after2 (H2.out _) ?_
    intro x2
    go_wp2
    go_ret
    exact ⟨rfl, by (repeat' (first | (with_reducible exact Below.refl _ _) | (with_reducible assumption) | (with_reducible refine Below.alloc ?_ ?_ _) | (with_reducible refine Below.drew ?_) | (with_reducible refine below_drewN ?_ _) | (with_reducible refine Below.setCell ?_ ?_ _) | (with_reducible refine below_after ?_ ?_ _) | (with_reducible refine below_set ?_) | (with_reducible refine After.size_le _ ?_) | (with_reducible refine size_alloc_le ?_) | (with_reducible refine size_set_le ?_) | (with_reducible refine size_drewN_le ?_) | go_size))⟩
  · rw [decide_eq_false hp] at H1
    rw [decide_eq_false (fun h : WindOk p s => hp h.1)]
    clear hp
    go_enter Tryd.func68, Tryd.ntmps68
    go_wp2_with fail
    refine calls_after (H1.out _) ?_
    intro x1
    go_wp2
    go_ret
    exact ⟨rfl, by (repeat' (first | (with_reducible exact Below.refl _ _) | (with_reducible assumption) | (with_reducible refine Below.alloc ?_ ?_ _) | (with_reducible refine Below.drew ?_) | (with_reducible refine below_drewN ?_ _) | (with_reducible refine Below.setCell ?_ ?_ _) | (with_reducible refine below_after ?_ ?_ _) | (with_reducible refine below_set ?_) | (with_reducible refine After.size_le _ ?_) | (with_reducible refine size_alloc_le ?_) | (with_reducible refine size_set_le ?_) | (with_reducible refine size_drewN_le ?_) | go_size))⟩
end Go.Proofs.YtcaelmaoldmgpaaDoor.Cr
