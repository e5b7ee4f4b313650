/- The first proof, as the program finds it. -/
import Derived.Test.YtdhobjflfhijjaaRproof
import Derived.Test.YtdhobjflfhijjaaTripb
import Derived.ControlIn
namespace Go.Proofs.Ytdhobjflfhijjaa
open Go.RowKit Go.Shelf
attribute [local go_sem] Oper.semAt_some
attribute [local go_sem] After.cell After.frozen After.lt After.le After.ne After.ne' After.set_eq After.size_set After.lt_add

/-- What lies behind W, with its cells said: for regions in which a block is made at any time. -/
abbrev KeptB (W w' : World) : Prop := Below W.heap.size W w' ∧ ∀ p : Addr, p.block < W.heap.size → w'.cell? p = W.cell? p
theorem keptB_of {W w' : World} (h : Below W.heap.size W w') : KeptB W w' := ⟨h, fun _ hp => h.cell hp⟩
theorem keptB_drew (W : World) : KeptB W W.drew := keptB_of (below_drawn W)
theorem keptB_alloc {W w' : World} {o : Obj} (h : KeptB W w') : KeptB W (w'.alloc o) := keptB_of (h.1.alloc h.1.size _)
theorem keptB_call {W w' w1 : World} (h : KeptB W w') (k : Below w'.heap.size w' w1) : KeptB W w1 := keptB_of (h.1.trans (k.mono h.1.size))
theorem keptB_set {W w' : World} {q : Addr} {u : Value} (h : KeptB W w') (hq : W.heap.size ≤ q.block) : KeptB W (w'.setCell q u) := keptB_of (h.1.setCell hq _)
theorem keptB_realloc {W w' : World} {o o' : Obj} (h : KeptB W (w'.alloc o)) (hz : W.heap.size ≤ w'.heap.size) : KeptB W (w'.alloc o') := keptB_of ⟨h.1.os, h.1.tape, h.1.output, by simp; omega, fun k hk => by
  have h1 := h.1.block k hk
  have e (o : Obj) : (w'.alloc o).heap[k]? = w'.heap[k]? := Below.heap_alloc _ _ _ (by omega)
  rw [e] at h1 ⊢
  exact h1⟩
theorem bcell {W W1 : World} (hb : Below W.heap.size W W1) : (∀ b o, b < W.heap.size → W1.cell? ⟨b, o, none⟩ = W.cell? ⟨b, o, none⟩) ∧ (∀ b o, b < W.heap.size → W1.frozen? ⟨b, o, none⟩ = W.frozen? ⟨b, o, none⟩) :=
  ⟨fun b o h => hb.cell (p := ⟨b, o, none⟩) h, fun b o h => hb.frozen (p := ⟨b, o, none⟩) h⟩
theorem bsize {W W1 : World} (hb : Below W.heap.size W W1) : ∀ b, b < W.heap.size → b < W1.heap.size := fun _ h => Nat.lt_of_lt_of_le h hb.size
theorem keepsFrom_below {B : Nat} {W W1 : World} (h : Below W.heap.size W W1) : KeepsFrom B W W1 := ⟨h.size, fun k _ _ hk _ => (h.block k (Array.getElem?_eq_some_iff.1 hk).1).trans hk⟩
theorem keptB_below {w W w' : World} (h : KeptB W w') (hB : Below w.heap.size w W) : Below w.heap.size w w' := hB.trans (h.1.mono hB.size)

set_option maxRecDepth 1000000 in
set_option maxHeartbeats 2000000 in
theorem lproof_ok (b off cap : Nat) (ps : List (Int × Int)) (w : World) (hb : b < w.heap.size)
    (hc : ∀ i, i < ps.length → w.cell? ⟨b, off + i * 2, none⟩ = some (.int .i64 (ps.getD i (0, 0)).1) ∧ w.cell? ⟨b, off + i * 2 + 1, none⟩ = some (.int .i64 (ps.getD i (0, 0)).2))
    (hG : GoodPts ps) :
    Calls Try.prog 45 #[.slice (some ⟨b, off, none⟩) ps.length cap] w fun e w' => e = .returned (.tuple #[trV (fstT (prfB (neL ps) ps (woF (neL ps) ps)) ps.length), .int .i64 (trE (fstT (prfB (neL ps) ps (woF (neL ps) ps)) ps.length))]) ∧ Below w.heap.size w w' := by
  have hl40 := hG.2.1
  have hA := goodPts_at hG
  have hL := (neL_good hG).1
  have hk := worI_lt (x := neL ps) hG.1
  have HN : Hid (∀ W, Below w.heap.size w W → _) := fun W hW => nearest_any b off cap ps W (Nat.lt_of_lt_of_le hb hW.size) (by omega) (cells_on hb hc hW)
  rw [(ne_mk hG).2.2.2] at HN
  have HF : Hid (∀ W, Below w.heap.size w W → _) := fun W hW => farthest_any b off cap (neL ps) ps W (Nat.lt_of_lt_of_le hb hW.size) (by omega) (cells_on hb hc hW) hL hA hG.1
  have HV := Lib.hid (fun w => above_any (neL ps).1 (neL ps).2.1 (neL ps).2.2 (ptAt ps (worI (neL ps) ps)).1 (ptAt ps (worI (neL ps) ps)).2 w hL (hA _ hk))
  have HP : Hid (∀ t : Tri, t.1 < t.2.1 → t.2.1 < t.2.2 → t.2.2 < ps.length → ∀ W, Below w.heap.size w W → _) := fun t h1 h2 h3 W hW => proves_any b off cap (neL ps) ps t (woF (neL ps) ps) W (Nat.lt_of_lt_of_le hb hW.size) (cells_on hb hc hW) hL hA (by omega) (by omega) h3
  obtain ⟨c1, c2⟩ := hc _ hk
  have bm := offV_bd hL (hA _ hk)
  change _ ≤ offV (neL ps).1 (neL ps).2.1 (neL ps).2.2 (ptAt ps (worI (neL ps) ps)).1 (ptAt ps (worI (neL ps) ps)).2 ∧ offV (neL ps).1 (neL ps).2.1 (neL ps).2.2 (ptAt ps (worI (neL ps) ps)).1 (ptAt ps (worI (neL ps) ps)).2 ≤ _ at bm
  have HW : Hid (woF (neL ps) ps = (offV (neL ps).1 (neL ps).2.1 (neL ps).2.2 (ptAt ps (worI (neL ps) ps)).1 (ptAt ps (worI (neL ps) ps)).2).natAbs) := rfl
  unfold neL at *
  dsimp only at *
  clear hA hL hG hc
  generalize prfB _ ps _ = B at *
  rw [HW.out] at HP
  clear HW
  generalize offV (neA ps) (neB ps) (neD ps) (ptAt ps (worI (neA ps, neB ps, neD ps) ps)).1 (ptAt ps (worI (neA ps, neB ps, neD ps) ps)).2 = P at *
  unfold ptAt at *
  generalize worI (neA ps, neB ps, neD ps) ps = l at *
  generalize ps.getD l (0, 0) = p at *
  obtain ⟨p1, p2⟩ := p
  dsimp only at *
  obtain ⟨b1, b1'⟩ := bm
  unfold triV at HP
  generalize neA ps = A at *
  generalize neB ps = Bn at *
  generalize neD ps = D at *
  generalize hX : fstT B ps.length = o
  have HX := Lib.hid hX
  clear hX
  generalize hn : ps.length = n at *
  clear hn
  have i4 : (l : Int) < (n : Int) := by omega
  have hb1 : b < w.heap.size + 1 := by omega
  have hb2 : b < w.heap.size + 2 := by omega
  have hb3 : b < w.heap.size + 3 := by omega
  refine (callsIn_wide (n := 3)).1 ?_
  refine callsIn_of_wp_marks Try.func45 rfl trivial ?_ rfl
  simp only [Try.ntmps45, List.size_toArray, List.length_cons, List.length_nil, Nat.reduceAdd, Nat.reduceSub, Array.replicate_succ, Array.replicate_zero, List.push_toArray, List.append_toArray, List.nil_append, List.cons_append]
  refine wpIn_wide.2 ?_
  (go_wp2_with fail); refine calls_after (HN.out _ (by (repeat' (first | (with_reducible exact Below.refl _ _) | (with_reducible assumption) | (with_reducible refine Below.alloc ?_ ?_ _) | (with_reducible refine Below.drew ?_) | (with_reducible refine below_drewN ?_ _) | (with_reducible refine Below.setCell ?_ ?_ _) | (with_reducible refine below_after ?_ ?_ _) | (with_reducible refine below_set ?_) | (with_reducible refine After.size_le _ ?_) | (with_reducible refine size_alloc_le ?_) | (with_reducible refine size_set_le ?_) | (with_reducible refine size_drewN_le ?_) | go_size)))) ?_; intro x1; have hz_x1 := x1.out.size; (try simp only [World.size_alloc] at hz_x1); (try simp only [World.size_setCell] at hz_x1); have k0_x1 : b < x1.w.heap.size := (by omega); have j0_x1 : b < x1.w.heap.size + 1 := (by omega); have k1_x1 : w.heap.size < x1.w.heap.size := (by omega); have j1_x1 : w.heap.size < x1.w.heap.size + 1 := (by omega); have k2_x1 : w.heap.size + 1 < x1.w.heap.size := (by omega); have j2_x1 : w.heap.size + 1 < x1.w.heap.size + 1 := (by omega); have k3_x1 : w.heap.size + 2 < x1.w.heap.size := (by omega); have j3_x1 : w.heap.size + 2 < x1.w.heap.size + 1 := (by omega)
  clear HN
  go_wp2_with fail
  rename_i K hK
  obtain ⟨W, hW⟩ : ∃ W, x1.w.alloc (.cells #[.int .i64 A, .int .i64 Bn, .int .i64 D] 35) = W := ⟨_, rfl⟩
  have hB : Below w.heap.size w W := by rw [← hW]; (repeat' (first | (with_reducible exact Below.refl _ _) | (with_reducible assumption) | (with_reducible refine Below.alloc ?_ ?_ _) | (with_reducible refine Below.drew ?_) | (with_reducible refine below_drewN ?_ _) | (with_reducible refine Below.setCell ?_ ?_ _) | (with_reducible refine below_after ?_ ?_ _) | (with_reducible refine below_set ?_) | (with_reducible refine After.size_le _ ?_) | (with_reducible refine size_alloc_le ?_) | (with_reducible refine size_set_le ?_) | (with_reducible refine size_drewN_le ?_) | go_size))
  have hS : x1.w.heap.size < W.heap.size := by rw [← hW]; simp
  have s0 : W.cell? ⟨x1.w.heap.size, 0, none⟩ = some (.int .i64 A) := by rw [← hW]; simp [go_sem]
  have s1 : W.cell? ⟨x1.w.heap.size, 1, none⟩ = some (.int .i64 Bn) := by rw [← hW]; simp [go_sem]
  have s2 : W.cell? ⟨x1.w.heap.size, 2, none⟩ = some (.int .i64 D) := by rw [← hW]; simp [go_sem]
  have q0 (p : Addr) (hp : p.block < w.heap.size + 3) : W.cell? p = (((w.alloc (.cells #[.slice (some ⟨b, off, none⟩) n cap] 24)).alloc (.cells #[.int .i64 0, .int .i64 0, .int .i64 0] 57)).alloc (.cells #[.int .i64 0] 25)).cell? p := by
    rw [← hW, World.cell?_alloc_lt _ _ _ (by omega), x1.cell _ (by simp; omega)]
  have l0 : W.cell? ⟨w.heap.size, 0, none⟩ = some (.slice (some ⟨b, off, none⟩) n cap) := by rw [q0 _ (by simp)]; simp [go_sem]
  have r0 : W.cell? ⟨w.heap.size + 1, 0, none⟩ = some (.int .i64 0) := by rw [q0 _ (by simp)]; simp [go_sem]
  have r1 : W.cell? ⟨w.heap.size + 1, 1, none⟩ = some (.int .i64 0) := by rw [q0 _ (by simp)]; simp [go_sem]
  have r2 : W.cell? ⟨w.heap.size + 1, 2, none⟩ = some (.int .i64 0) := by rw [q0 _ (by simp)]; simp [go_sem]
  have e0 : W.cell? ⟨w.heap.size + 2, 0, none⟩ = some (.int .i64 0) := by rw [q0 _ (by simp)]; simp [go_sem]
  have f1 : ∀ o, W.frozen? ⟨w.heap.size + 1, o, none⟩ = false := fun o => by
    rw [← hW, World.frozen?_alloc_past _ _ _ (by omega), x1.frozen _ (by simp)]; simp [go_sem]
  have f2 : ∀ o, W.frozen? ⟨w.heap.size + 2, o, none⟩ = false := fun o => by
    rw [← hW, World.frozen?_alloc_past _ _ _ (by omega), x1.frozen _ (by simp)]; simp [go_sem]
  have z3 : w.heap.size + 2 < W.heap.size := by omega
  have z2 : w.heap.size + 1 < W.heap.size := by omega
  have z1 : w.heap.size < W.heap.size := by omega
  have zb : b < W.heap.size := by omega
  have c1 := (hB.cell (p := ⟨b, off + l * 2, none⟩) hb).trans c1
  have c2 := (hB.cell (p := ⟨b, off + l * 2 + 1, none⟩) hb).trans c2
  rw [hW]
  clear q0 hW
  generalize x1.w.heap.size = S at *
  have HZ := Lib.hid (And.intro r0 (And.intro r1 (And.intro r2 (And.intro e0 (And.intro f1 f2)))))
  clear r0 r1 r2 e0 f1 f2 hb1 hb2 hb3
  have KEY : ∀ (M : Nat) (V : World), KeptB W V → W.heap.size ≤ M → M < V.heap.size → V.cell? ⟨M, 0, none⟩ = some (.int .i64 P.natAbs) →
      K { tmps := #[.slice (some ⟨b, off, none⟩) n cap, .pointer (some ⟨w.heap.size, 0, none⟩), .pointer (some ⟨w.heap.size + 1, 0, none⟩), .pointer (some ⟨w.heap.size + 1 + 1, 0, none⟩), .pointer (some ⟨S, 0, none⟩), .int .i64 0, .pointer (some ⟨M, 0, none⟩), undef, .tuple #[.agg #[.int .i64 A, .int .i64 Bn, .int .i64 D], .int .i64 0], .slice (some ⟨b, off, none⟩) n cap, .tuple #[.agg #[.int .i64 A, .int .i64 Bn, .int .i64 D], .int .i64 0], .agg #[.int .i64 A, .int .i64 Bn, .int .i64 D], .int .i64 0, .int .i64 0, .bool false, undef, undef, .agg #[.int .i64 A, .int .i64 Bn, .int .i64 D], .slice (some ⟨b, off, none⟩) n cap, .agg #[.int .i64 A, .int .i64 Bn, .int .i64 D], .slice (some ⟨b, off, none⟩) n cap, .int .i64 l, .pointer (some ⟨b, off + l * 2, none⟩), .agg #[.int .i64 p1, .int .i64 p2], .int .i64 P, .int .i64 P.natAbs, undef, undef, undef, undef, undef, undef, undef, undef, undef, undef, undef], defers := [] } V := by
    intro M V hV hM hM2 hcM
    refine hK _ _ ?_
    clear hK K
    have hz := hV.1.size
    have hR2 := hM2
    go_wp2_with (go_at_call 80; refine (triples_any _ _).mono ?_; rintro e w1 ⟨rfl, rfl⟩)
    obtain ⟨r0, r1, r2, e0, f1, f2⟩ := HZ.out
    obtain ⟨W0, hW0⟩ : ∃ W0, V.alloc (.cells #[.int .i64 n] 3) = W0 := ⟨_, rfl⟩
    have hWW : Below W.heap.size W W0 := by rw [← hW0]; exact hV.1.alloc hV.1.size _
    have hVW : V.heap.size < W0.heap.size := by rw [← hW0]; simp
    have hn0 : W0.cell? ⟨V.heap.size, 0, none⟩ = some (.int .i64 n) := by rw [← hW0]; simp [go_sem]
    have hcM : W0.cell? ⟨M, 0, none⟩ = some (.int .i64 P.natAbs) := by rw [← hW0]; exact keep_alloc hcM
    have hwW : Below w.heap.size w W0 := hB.trans (hWW.mono hB.size)
    rw [hW0]
    clear hW0 hV
    have on : ∀ {q : Addr} {v : Value}, q.block < W.heap.size → W.cell? q = some v → W0.cell? q = some v := fun h h2 => (hWW.cell h).trans h2
    have s0 := on hS s0
    have s1 := on hS s1
    have s2 := on hS s2
    have l0 := on z1 l0
    have r0 := on z2 r0
    have r1 := on z2 r1
    have r2 := on z2 r2
    have e0 := on z3 e0
    have f1 : ∀ o, W0.frozen? ⟨w.heap.size + 1, o, none⟩ = false := fun o => (hWW.frozen z2).trans (f1 o)
    have f2 : ∀ o, W0.frozen? ⟨w.heap.size + 2, o, none⟩ = false := fun o => (hWW.frozen z3).trans (f2 o)
    clear on HZ
    have y1 : w.heap.size < W0.heap.size := by omega
    have y2 : w.heap.size + 1 < W0.heap.size := by omega
    have y3 : w.heap.size + 2 < W0.heap.size := by omega
    have yS : S < W0.heap.size := by omega
    have yM : M < W0.heap.size := by omega
    refine wpIn_wide (n := 3).1 ?_
    refine wpIn_rangeFunc_ownH rfl (by omega) (gf := 107) (lb := #[.pointer (some ⟨V.heap.size, 0, none⟩)]) rfl trivial (enters_of Try.func107 (by kernel_rfl) rfl)
      (triples_sub Fence.wide 2 trivial rfl (by omega) V.heap.size W0.heap.size n (by omega) W0 hVW (Nat.le_refl _) hn0) belowK_t (belowK_b (Nat.le_refl _)) (Below.refl _ _) (fun _ => rfl)
      (fun pre W' => (∀ s ∈ pre.map (·.1), B s = false) ∧ Below W0.heap.size W0 W')
      (fun c pre W' => c = .ret ∧ (∃ (t : Tri) (pr : List Tri), pre.map (·.1) = pr ++ [t] ∧ (∀ s ∈ pr, B s = false) ∧ B t = true ∧ W'.cell? ⟨w.heap.size + 1, 0, none⟩ = some (.int .i64 t.1) ∧ W'.cell? ⟨w.heap.size + 1, 1, none⟩ = some (.int .i64 t.2.1) ∧ W'.cell? ⟨w.heap.size + 1, 2, none⟩ = some (.int .i64 t.2.2)) ∧ W'.cell? ⟨w.heap.size + 2, 0, none⟩ = some (.int .i64 0) ∧ Below w.heap.size w W')
      (OwnFrom.and (ownFrom_pure _ (fun pre : List (TriN n) => ∀ s ∈ pre.map (·.1), B s = false)) (ownFrom_below (Nat.le_refl _) (Nat.le_refl _)))
      (fun c s X Y row hs hg hr => by
        obtain ⟨h1, ⟨t, pr, h2, h3, h4, h5, h6, h7⟩, h8, h9⟩ := hs
        have hr' : ∀ r, row = some r → ∃ o : Obj, X.heap[r]? = some o ∧ o.isCells = false := fun r e => (hr r e).2
        exact ⟨h1, ⟨t, pr, h2, h3, h4, cell_kept h5 hg hr', cell_kept h6 hg hr', cell_kept h7 hg hr'⟩, cell_kept h8 hg hr', ownFrom_below (β := Unit) (Nat.le_refl _) (Nat.le_of_lt y1) () X Y row h9 hg hr⟩)
      ⟨by simp, Below.refl _ _⟩
      (fun x a' W' => ∃ Bx, W0.heap.size ≤ Bx ∧ W'.heap[Bx]? = some (.cells #[.int .i64 x.1.1, .int .i64 x.1.2.1, .int .i64 x.1.2.2] 57 (0, 0)) ∧ a' = { tmps := #[.slice (some ⟨b, off, none⟩) n cap, .pointer (some ⟨w.heap.size, 0, none⟩), .pointer (some ⟨w.heap.size + 1, 0, none⟩), .pointer (some ⟨w.heap.size + 1 + 1, 0, none⟩), .pointer (some ⟨S, 0, none⟩), .int .i64 0, .pointer (some ⟨M, 0, none⟩), .pointer (some ⟨Bx, 0, none⟩), .tuple #[.agg #[.int .i64 A, .int .i64 Bn, .int .i64 D], .int .i64 0], .slice (some ⟨b, off, none⟩) n cap, .tuple #[.agg #[.int .i64 A, .int .i64 Bn, .int .i64 D], .int .i64 0], .agg #[.int .i64 A, .int .i64 Bn, .int .i64 D], .int .i64 0, .int .i64 0, .bool false, undef, undef, .agg #[.int .i64 A, .int .i64 Bn, .int .i64 D], .slice (some ⟨b, off, none⟩) n cap, .agg #[.int .i64 A, .int .i64 Bn, .int .i64 D], .slice (some ⟨b, off, none⟩) n cap, .int .i64 l, .pointer (some ⟨b, off + l * 2, none⟩), .agg #[.int .i64 p1, .int .i64 p2], .int .i64 P, .int .i64 P.natAbs, .slice (some ⟨b, off, none⟩) n cap, .int .i64 n, .func (.func 107) #[] #[.pointer (some ⟨V.heap.size, 0, none⟩)], triV x.1, undef, undef, undef, undef, undef, undef, undef], defers := [] })
      (fun x a' _ X Y row hs hg hr => by obtain ⟨Bx, h1, h2, h3⟩ := hs; exact ⟨Bx, h1, blk_own Bx (fun (_ : Unit) => #[.int .i64 x.1.1, .int .i64 x.1.2.1, .int .i64 x.1.2.2]) 57 () X Y row h2 hg (fun r e => (hr r e).2), h3⟩)
      ?assign ?body ?done ?stop
    case assign =>
      rintro l pre x W' K ⟨hp, hB'⟩ hK
      rw [triV_eq] at *
      gi_wp2
      exact hK _ _ ((KeepsOthers.alloc _ _).from _) ((Below.refl _ W').alloc hB'.size _) ⟨hp, hB'.alloc hB'.size _⟩ ⟨W'.heap.size, hB'.size, heap_alloc_new W' _, rfl⟩
    case body =>
      rintro l' pre x a' W' hl ⟨r, hr⟩ ⟨hp, hB'⟩ ⟨Bx, hBx, hX, rfl⟩ hlt
      obtain ⟨⟨i, j, k⟩, hx1, hx2, hx3⟩ := x
      have hx0 : W'.cell? ⟨Bx, 0, none⟩ = some (.int .i64 i) := cell_of_row W' Bx 0 _ _ _ hX
      have hx1' : W'.cell? ⟨Bx, 1, none⟩ = some (.int .i64 j) := cell_of_row W' Bx 1 _ _ _ hX
      have hx2' : W'.cell? ⟨Bx, 2, none⟩ = some (.int .i64 k) := cell_of_row W' Bx 2 _ _ _ hX
      have hXlt : Bx < W'.heap.size := (Array.getElem?_eq_some_iff.1 hX).1
      clear hX
      dsimp only at hx1 hx2 hx3
      have hQ0 := HP.out (i, j, k) hx1 hx2 hx3 W' (hwW.trans (hB'.mono (Nat.le_of_lt y1)))
      dsimp only at hQ0
      have on : ∀ {q : Addr} {v : Value}, q.block < W0.heap.size → W0.cell? q = some v → W'.cell? q = some v := fun h h2 => (hB'.cell h).trans h2
      have s0 := on yS s0
      have s1 := on yS s1
      have s2 := on yS s2
      have l0 := on y1 l0
      have r0 := on y2 r0
      have r1 := on y2 r1
      have r2 := on y2 r2
      have e0 := on y3 e0
      have cM := on yM hcM
      have f1 : ∀ o, W'.frozen? ⟨w.heap.size + 1, o, none⟩ = false := fun o => (hB'.frozen y2).trans (f1 o)
      have f2 : ∀ o, W'.frozen? ⟨w.heap.size + 2, o, none⟩ = false := fun o => (hB'.frozen y3).trans (f2 o)
      have hsW := hB'.size
      have t1 : w.heap.size < W'.heap.size := by omega
      have t2 : w.heap.size + 1 < W'.heap.size := by omega
      have t3 : w.heap.size + 2 < W'.heap.size := by omega
      clear on
      have HPp := Lib.hid hp
      cases hBt : B (i, j, k)
      · rw [hBt] at hQ0
        have HQ := Lib.hid hQ0
        have HBt := Lib.hid hBt
        clear hQ0 hBt hp
        gi_wp2_with (refine ⟨trivial, ?_⟩; gi_at_call 88; refine (CallsIn.inRound l' (callsIn_wide.2 HQ.out)).mono ?_; rintro e w1 ⟨rfl, hw1⟩)
        exact ⟨keepsFrom_below hw1, hw1.mono hsW, ⟨fun s hs => by
          rw [List.map_append] at hs
          rcases List.mem_append.1 hs with h | h
          · exact HPp.out s h
          · rw [List.mem_singleton.1 h]; exact HBt.out, hB'.trans (hw1.mono hsW)⟩⟩
      · rw [hBt] at hQ0
        have HQ := Lib.hid hQ0
        have HBt := Lib.hid hBt
        clear hQ0 hBt hp
        gi_wp2_with (refine ⟨trivial, ?_⟩; gi_at_call 88; refine (CallsIn.inRound l' (callsIn_wide.2 HQ.out)).mono ?_; rintro e w1 ⟨rfl, hw1⟩; obtain ⟨hc1, hf1⟩ := bcell hw1)
        refine ⟨?_, rfl, ⟨(i, j, k), pre.map (·.1), by simp, HPp.out, HBt.out, ?_, ?_, ?_⟩, ?_, ?_⟩
        · repeat' first | exact keepsFrom_below hw1 | refine KeepsFrom.trans ?_ ((KeepsOthers.setCell _ _ _).from _)
        · simp [go_sem, *]
        · simp [go_sem, *]
        · simp [go_sem, *]
        · simp [go_sem, *]
        · have hb0 : Below w.heap.size w w1 := (hwW.trans (hB'.mono (Nat.le_of_lt y1))).trans (hw1.mono (Nat.le_of_lt t1))
          clear hw1 hB' hwW
          (repeat' (first | (with_reducible exact Below.refl _ _) | (with_reducible assumption) | (with_reducible refine Below.alloc ?_ ?_ _) | (with_reducible refine Below.drew ?_) | (with_reducible refine below_drewN ?_ _) | (with_reducible refine Below.setCell ?_ ?_ _) | (with_reducible refine below_after ?_ ?_ _) | (with_reducible refine below_set ?_) | (with_reducible refine After.size_le _ ?_) | (with_reducible refine size_alloc_le ?_) | (with_reducible refine size_set_le ?_) | (with_reducible refine size_drewN_le ?_) | go_size))
    case done =>
      rintro D ys W' hD hys ⟨hp, hB'⟩ hK
      obtain rfl : o = none := HX.out.symm.trans (fstT_none (by rw [show tripsI n n = trips n from rfl, ← hys]; exact hp))
      have on : ∀ {q : Addr} {v : Value}, q.block < W0.heap.size → W0.cell? q = some v → W'.cell? q = some v := fun h h2 => (hB'.cell h).trans h2
      have r0 := on y2 r0
      have r1 := on y2 r1
      have r2 := on y2 r2
      have e0 := on y3 e0
      have f1 : ∀ o, W'.frozen? ⟨w.heap.size + 1, o, none⟩ = false := fun o => (hB'.frozen y2).trans (f1 o)
      have f2 : ∀ o, W'.frozen? ⟨w.heap.size + 2, o, none⟩ = false := fun o => (hB'.frozen y3).trans (f2 o)
      clear on
      gi_wp2
      go_wp2
      obtain ⟨X, hX⟩ : ∃ X, (((W'.setCell ⟨w.heap.size + 1, 0, none⟩ (.int .i64 0)).setCell ⟨w.heap.size + 1, 1, none⟩ (.int .i64 0)).setCell ⟨w.heap.size + 1, 2, none⟩ (.int .i64 0)).setCell ⟨w.heap.size + 1 + 1, 0, none⟩ (.int .i64 8) = X := ⟨_, rfl⟩
      have c0 : X.cell? ⟨w.heap.size + 1, 0, none⟩ = some (.int .i64 0) := by rw [← hX]; simp [go_sem, r0]
      have c1 : X.cell? ⟨w.heap.size + 1, 1, none⟩ = some (.int .i64 0) := by rw [← hX]; simp [go_sem, r1]
      have c2 : X.cell? ⟨w.heap.size + 1, 2, none⟩ = some (.int .i64 0) := by rw [← hX]; simp [go_sem, r2]
      have c3 : X.cell? ⟨w.heap.size + 1 + 1, 0, none⟩ = some (.int .i64 8) := by rw [← hX]; simp [go_sem, e0]
      have hKX : X.heap[D]? = some (.deferred (some [])) := by
        rw [← hX]
        repeat' first | exact hK | refine (KeepsOthers.setCell _ _ _).same D _ ?_ rfl
      have hBX : Below w.heap.size w X := by
        rw [← hX]
        have hb0 : Below w.heap.size w W' := hwW.trans (hB'.mono (Nat.le_of_lt y1))
        clear hB' hwW
        (repeat' (first | (with_reducible exact Below.refl _ _) | (with_reducible assumption) | (with_reducible refine Below.alloc ?_ ?_ _) | (with_reducible refine Below.drew ?_) | (with_reducible refine below_drewN ?_ _) | (with_reducible refine Below.setCell ?_ ?_ _) | (with_reducible refine below_after ?_ ?_ _) | (with_reducible refine below_set ?_) | (with_reducible refine After.size_le _ ?_) | (with_reducible refine size_alloc_le ?_) | (with_reducible refine size_set_le ?_) | (with_reducible refine size_drewN_le ?_) | go_size))
      rw [hX]
      clear hX
      refine ⟨by simp, .inl ⟨_, _, rfl, run_takeDeferred hKX, ?_⟩⟩
      have ck : ∀ {q : Addr} {v : Value}, X.cell? q = some v → (X.putObj D (.deferred none)).cell? q = some v := fun h => cell_kept h (grownBy_putObj' _ D (.deferred none)) (fun r e => by cases e; exact ⟨_, hKX, rfl⟩)
      refine ⟨.tuple #[.agg #[.int .i64 0, .int .i64 0, .int .i64 0], .int .i64 8], ?_, rfl, hBX.trans (belowK_b (w := w) (Nat.le_refl _) X D _ _ (by omega) hKX rfl rfl)⟩
      simp [results, Try.results45, go_sem, ck c0, ck c1, ck c2, ck c3]
    case stop =>
      rintro D c pre W' hD hpre ⟨rfl, ⟨t, pr, h2, h3, h4, h5, h6, h7⟩, h8, h9⟩ hK
      obtain rfl : o = some t := HX.out.symm.trans (find_pre h3 h4 (by rw [← h2]; exact hpre))
      obtain ⟨ti, tj, tk⟩ := t
      dsimp only at h5 h6 h7
      gi_wp2
      refine ⟨by simp, .inl ⟨_, _, rfl, run_takeDeferred hK, ?_⟩⟩
      have ck : ∀ {q : Addr} {v : Value}, W'.cell? q = some v → (W'.putObj D (.deferred none)).cell? q = some v := fun h => cell_kept h (grownBy_putObj' _ D (.deferred none)) (fun r e => by cases e; exact ⟨_, hK, rfl⟩)
      refine ⟨.tuple #[.agg #[.int .i64 ti, .int .i64 tj, .int .i64 tk], .int .i64 0], ?_, rfl, h9.trans (belowK_b (w := w) (Nat.le_refl _) W' D _ _ (by omega) hK rfl rfl)⟩
      simp [results, Try.results45, go_sem, ck h5, ck h6, ck h7, ck h8]
  clear hK
  go_region_held3 (fun w' => KeptB W w')
    (first | assumption | exact keptB_drew W | exact keptB_alloc (by assumption) | exact keptB_call (by assumption) (by assumption) | exact keptB_set (by assumption) (by first | (simp; done) | omega) | exact keptB_realloc (by assumption) (by first | (simp; done) | omega))
    (first | (go_at_call 77; refine (HF.out _ (keptB_below (by assumption) hB)).mono ?_; rintro e w1 ⟨rfl, hw1⟩; have hz1 := (keptB_call (W := W) (by assumption) hw1).1.size; obtain ⟨hc1, hf1⟩ := bcell hw1; have hz3 := bsize hw1) | (go_at_call 74; refine (HV.out _).mono ?_; rintro e w1 ⟨rfl, hw1⟩; have hz1 := (keptB_call (W := W) (by assumption) hw1).1.size; obtain ⟨hc1, hf1⟩ := bcell hw1; have hz3 := bsize hw1) | (go_at_call 73; refine (abs_any _ _ (by omega) (by omega)).mono ?_; rintro e w1 ⟨rfl, rfl⟩))
  all_goals (refine KEY _ _ (by assumption) ?_ ?_ ?_)
  all_goals first | exact Nat.le_refl _ | assumption | (simp; done) | (simp [*]; done) | (go_simp; done) | (refine World.cell?_setCell_same' _ _ _ ?_; first | (simp [*]; done) | (go_simp; done) | (simp [go_sem, *]; done) | (rw [hc1 _ _ (hz3 _ (by simp))]; simp [go_sem, *]; done))
end Go.Proofs.Ytdhobjflfhijjaa
