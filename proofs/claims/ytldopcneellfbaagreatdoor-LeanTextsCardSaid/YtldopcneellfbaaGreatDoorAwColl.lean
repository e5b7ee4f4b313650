/- Collecting the triples. -/
import Derived.Test.YtldopcneellfbaaGreatDoorAwTrip
import Derived.Deep.AppendLies
namespace Go.Proofs.YtldopcneellfbaaGreatDoor.Aw
open Go.Proofs.YtldopcneellfbaaGreatDoor
open Go.RowKit Go.Shelf
attribute [local go_sem] Oper.semAt_some

def triC (x : Tri) : List Value := [.int .i64 x.1, .int .i64 x.2.1, .int .i64 x.2.2]
def triCs (l : List Tri) : List Value := l.flatMap triC
theorem triCs_snoc (l : List Tri) (x : Tri) : triCs (l ++ [x]) = triCs l ++ triC x := by simp [triCs]

theorem triples_stops (F : Fence) (m : Nat) (hF : F.fn 47) (hro : F.round = none) (hm : 1 ≤ m) (Bn n₀ n : Nat) (hn : n ≤ 1000) (w : World) (hBn : Bn < n₀) (hn₀ : n₀ ≤ w.heap.size)
    (hc : w.cell? ⟨Bn, 0, none⟩ = some (.int .i64 n)) :
    SeqStopsK F m Tryz.prog 47 #[.pointer (some ⟨Bn, 0, none⟩)] (fun x : Tri => #[triV x]) (Below n₀) (fun ys => ys = trips n) (fun pre => pre <+: trips n) (trips n).length w := fun l J Jx W hW _ _ hY h0 =>
  triples1_in F m hF hro hm l Bn n₀ n hn hBn J Jx hY W ((hW.cell (p := ⟨Bn, 0, none⟩) (by show Bn < _; omega)).trans hc) h0

theorem triInfo : (Tryz.prog.info? 66).map (fun i => (i.zero, i.size, i.bytes)) = some (some (.agg #[.int .i64 0, .int .i64 0, .int .i64 0]), 3, 24) := by kernel_rfl
theorem triV_eq (x : Tri) : triV x = .agg #[.int .i64 x.1, .int .i64 x.2.1, .int .i64 x.2.2] := rfl

/-- A block that is known whole stays so where no block of cells turns. -/
theorem blk_own {β : Type} (b : Nat) (cs : β → Array Value) (t : TypeId) : Own (fun (s : β) W => W.heap[b]? = some (.cells (cs s) t (0, 0))) := fun s X Y row hs hg hrow =>
  (hg.block b (Array.getElem?_eq_some_iff.1 hs).1 (fun e' => by obtain ⟨o, ho, hc⟩ := hrow b e'.symm; rw [hs] at ho; cases ho; cases hc)).trans hs

set_option maxRecDepth 100000 in
set_option maxHeartbeats 2000000 in
theorem appendSeq_in (F : Fence) (m : Nat) (h3 : F.fn 46) (h4 : F.fn 47) (hro : F.round = none) (hm : 3 ≤ m) (Bn n : Nat) (hn : n ≤ 1000) (hlen : (trips n).length ≤ 1000000000) (w : World) (hBn : Bn < w.heap.size) (hc : w.cell? ⟨Bn, 0, none⟩ = some (.int .i64 n)) :
    CallsIn F m Tryz.prog 46 #[.slice none 0 0, .func (.func 47) #[] #[.pointer (some ⟨Bn, 0, none⟩)]] w fun e W' => ∃ v, e = .returned v ∧ W'.ownsRow w.heap.size 66 3 v (trips n).length (triCs (trips n)) ∧ (v = .slice none 0 0 ↔ trips n = []) ∧ Below w.heap.size w W' := by
  have h1 : 1 ≤ m := by omega
  obtain ⟨i0, hi, hz0, hz1, hz2⟩ := info_parts triInfo
  refine callsIn_of_wp_marks Tryz.func46 rfl h3 ?_ hro
  simp only [Tryz.ntmps46, List.size_toArray, List.length_cons, List.length_nil, Nat.reduceAdd, Nat.reduceSub, Array.replicate_succ, Array.replicate_zero, List.push_toArray, List.append_toArray, List.nil_append, List.cons_append]
  gi_wp2
  have bS := Boxed.new w 64 (.slice none 0 0)
  have hB0 : Below w.heap.size w (w.alloc (.cells #[.slice none 0 0] 64)) := (Below.refl _ w).alloc (Nat.le_refl _) _
  have hsz : (w.alloc (.cells #[.slice none 0 0] 64)).heap.size = w.heap.size + 1 := by simp
  have hrow0 := World.ownsRow_nil (w.alloc (.cells #[.slice none 0 0] 64)) w.heap.size 66 3
  have hcn : (w.alloc (.cells #[.slice none 0 0] 64)).cell? ⟨Bn, 0, none⟩ = some (.int .i64 n) := (hB0.cell (p := ⟨Bn, 0, none⟩) hBn).trans hc
  obtain ⟨W0, hW0⟩ : ∃ W0, w.alloc (.cells #[.slice none 0 0] 64) = W0 := ⟨_, rfl⟩
  rw [hW0] at bS hB0 hsz hrow0 hcn ⊢
  clear hW0
  refine wpIn_rangeFunc_ownH hro h1 (gf := 47) (lb := #[.pointer (some ⟨Bn, 0, none⟩)]) rfl h4 (enters_of Tryz.func47 (by kernel_rfl) rfl)
    (triples_stops F (m - 1) h4 hro (by omega) Bn w.heap.size n hn W0 hBn (by omega) hcn) belowK_t (belowK_b (by omega)) (Below.refl _ _) (fun _ => rfl)
    (fun pre W => (∃ v, Boxed W w.heap.size 64 v ∧ W.ownsRow w.heap.size 66 3 v pre.length (triCs pre) ∧ (v = .slice none 0 0 ↔ pre = [])) ∧ Below w.heap.size w W)
    (fun _ _ _ => False)
    (OwnFrom.and (Own.from (holdsRow_own w.heap.size w.heap.size 64 66 3 (fun pre => pre.length) (fun pre => triCs pre) (fun pre v => v = .slice none 0 0 ↔ pre = [])) _) (ownFrom_below (Nat.le_refl _) (by omega)))
    (fun _ _ _ _ _ hs _ _ => hs)
    ⟨⟨_, bS, hrow0, by simp⟩, hB0⟩
    (fun x a' W => ∃ Bx, w.heap.size < Bx ∧ W.heap[Bx]? = some (.cells #[.int .i64 x.1, .int .i64 x.2.1, .int .i64 x.2.2] 66 (0, 0)) ∧ a' = { tmps := #[.slice none 0 0, .func (.func 47) #[] #[.pointer (some ⟨Bn, 0, none⟩)], .pointer (some ⟨w.heap.size, 0, none⟩), undef, .slice none 0 0, .pointer (some ⟨Bx, 0, none⟩), .func (.func 47) #[] #[.pointer (some ⟨Bn, 0, none⟩)], triV x, undef, undef, undef, undef, undef], defers := [] })
    (fun x a' _ X Y row hs hg hr => by obtain ⟨Bx, h1, h2, h3⟩ := hs; exact ⟨Bx, h1, blk_own Bx (fun (_ : Unit) => #[.int .i64 x.1, .int .i64 x.2.1, .int .i64 x.2.2]) 66 () X Y row h2 hg (fun r e => (hr r e).2), h3⟩)
    ?assign ?body ?done ?stop
  case assign =>
    rintro l pre x W K ⟨⟨v, hv, hrow, hnil⟩, hB⟩ hK
    rw [triV_eq] at *
    gi_wp2
    exact hK _ _ ((KeepsOthers.alloc _ _).from _) ((Below.refl _ W).alloc hB.size _) ⟨⟨v, hv.alloc _, hrow.alloc _, hnil⟩, hB.alloc hB.size _⟩ ⟨W.heap.size, hv.lt, heap_alloc_new W _, rfl⟩
  case body =>
    rintro l pre x a' W hl ⟨r, hr⟩ ⟨⟨v, hv, hrow, hnil⟩, hB⟩ ⟨Bx, hBx, hX, rfl⟩ hlt
    have hcv := hv.cell
    have x0 : W.cell? ⟨Bx, 0, none⟩ = some (.int .i64 x.1) := cell_of_row W Bx 0 _ _ _ hX
    have x1 : W.cell? ⟨Bx, 1, none⟩ = some (.int .i64 x.2.1) := cell_of_row W Bx 1 _ _ _ hX
    have x2 : W.cell? ⟨Bx, 2, none⟩ = some (.int .i64 x.2.2) := cell_of_row W Bx 2 _ _ _ hX
    have hXlt : Bx < W.heap.size := (Array.getElem?_eq_some_iff.1 hX).1
    have hsW := hB.size
    clear hX
    gi_wp2_with (gi_at_builtin; refine wpListIn_append_own _ rfl _ _ 64 rfl w.heap.size 66 i0 (.agg #[.int .i64 0, .int .i64 0, .int .i64 0]) 3 24 Tryz.underlying64 hi hz0 hz1 hz2 rfl (by decide) _ _ _ rfl (hrow.alloc _) ⟨W.heap.size, 0, none⟩ 1 1 [.int .i64 x.1, .int .i64 x.2.1, .int .i64 x.2.2] rfl rfl (World.news_of_block (cs := #[.int .i64 x.1, .int .i64 x.2.1, .int .i64 x.2.2]) (t := 66) (fr := (0, 0)) (heap_alloc_new W _)) (by simp [Value.oneCell']) (by unfold maxLen; omega) (by omega) (by simp; omega) ?_; intro v' w1 hown' hgrow _; obtain ⟨g', cap', rfl⟩ := ownsRow_succ hown'; obtain ⟨hv1, hv2, hr2, hk2, hb2⟩ := hv.appended (by decide) hrow hB.size (Nat.le_refl _) hown' hgrow; have hc1 := hv1.cell; have hf1 := hv1.frozen)
    exact ⟨hk2.from _, hb2, ⟨_, hv2, by rw [triCs_snoc]; simpa [triC] using hr2, by simp⟩, hB.trans hb2⟩
  case done =>
    rintro D ys W hD rfl ⟨⟨v, hv, hrow, hnil⟩, hB⟩ hK
    have hcv := hv.cell
    gi_wp2
    refine ⟨by simp, .inl ⟨_, _, rfl, run_takeDeferred hK, ?_⟩⟩
    exact ⟨_, results_tmp rfl _ _ _, v, rfl, ownsRow_putObj hrow _ hK rfl, hnil, hB.trans (belowK_b (w := w) (Nat.le_refl _) W D _ _ (by omega) hK rfl rfl)⟩
  case stop =>
    rintro D c pre W _ _ h _
    exact h.elim

theorem flat_le {α β : Type} (f : α → List β) (c : Nat) : ∀ (l : List α), (∀ a ∈ l, (f a).length ≤ c) → (l.flatMap f).length ≤ l.length * c
  | [], _ => by simp
  | a :: l, h => by
    have h1 := flat_le f c l (fun b hb => h b (List.mem_cons_of_mem _ hb))
    have h2 := h a List.mem_cons_self
    simp only [List.flatMap_cons, List.length_append, List.length_cons, Nat.add_mul, Nat.one_mul]
    omega
theorem tripsK_le (i j k : Nat) : (tripsK i j k).length ≤ k := by unfold tripsK; simp only [List.length_map, List.length_range']; omega
theorem trips_le (n : Nat) : (trips n).length ≤ n * (n * n) := by
  have hJ : ∀ i, (tripsJ n i n).length ≤ n * n := fun i => by
    unfold tripsJ
    refine Nat.le_trans (flat_le _ n _ (fun b _ => tripsK_le i b n)) ?_
    simp only [List.length_range']
    exact Nat.mul_le_mul_right _ (by omega)
  unfold trips tripsI
  refine Nat.le_trans (flat_le _ (n * n) _ (fun b _ => hJ b)) ?_
  simp
theorem trips_lt (n : Nat) (h : n ≤ 100) : (trips n).length ≤ 1000000 := by
  refine Nat.le_trans (trips_le n) ?_
  exact Nat.mul_le_mul h (Nat.mul_le_mul h h)

/-- A contract in the widest fence is a contract. -/
theorem collect_any (Bn n : Nat) (hn : n ≤ 100) (w : World) (hBn : Bn < w.heap.size) (hc : w.cell? ⟨Bn, 0, none⟩ = some (.int .i64 n)) :
    Calls Tryz.prog 25 #[.func (.func 47) #[] #[.pointer (some ⟨Bn, 0, none⟩)]] w fun e W' => ∃ v, e = .returned v ∧ W'.ownsRow w.heap.size 66 3 v (trips n).length (triCs (trips n)) ∧ (v = .slice none 0 0 ↔ trips n = []) ∧ Below w.heap.size w W' := by
  have HA := Lib.hid (callsIn_wide.1 (appendSeq_in Fence.wide 3 trivial trivial rfl (by omega) Bn n (by omega) (by have := trips_lt n hn; omega) w hBn hc))
  go_enter Tryz.func25, Tryz.ntmps25
  go_wp2_with fail
  refine HA.out.mono ?_
  rintro e W' ⟨v, rfl, hr, hv, hb⟩
  have HR := Lib.hid (And.intro hr (And.intro hv hb))
  clear hr hv hb
  go_wp2
  go_ret
  exact ⟨v, rfl, HR.out.1, HR.out.2.1, HR.out.2.2⟩

theorem triples_any (n : Nat) (w : World) :
    Calls Tryz.prog 26 #[.int .i64 n] w fun e w' => e = .returned (.func (.func 47) #[] #[.pointer (some ⟨w.heap.size, 0, none⟩)]) ∧ w.alloc (.cells #[.int .i64 n] 3) = w' := by
  go_enter Tryz.func26, Tryz.ntmps26
  go_wp2
  go_ret
  exact ⟨rfl, rfl⟩
end Go.Proofs.YtldopcneellfbaaGreatDoor.Aw
