/- least: the least of numbers from a link up. -/
import Derived.Test.YtkgfaemdgmmdkaaGreatDoorGxGup
import Derived.Test.YtkgfaemdgmmdkaaGreatDoorGxGli
namespace Go.Proofs.YtkgfaemdgmmdkaaGreatDoor.Gx
open Go.Proofs.YtkgfaemdgmmdkaaGreatDoor
open Go.RowKit Go.Shelf
attribute [local go_sem] Oper.semAt_some

/-- Where a slice's numbers lie, by a function. -/
def GAt (W : World) (a : Option Addr) (n : Nat) (g : Nat → Int) : Prop := ∀ k, k < n → ∃ b off, a = some ⟨b, off, none⟩ ∧ b < W.heap.size ∧ W.cell? ⟨b, off + k, none⟩ = some (.int .i64 (g k))
theorem GAt.on {w W : World} {a : Option Addr} {n : Nat} {g : Nat → Int} (h : GAt w a n g) (hb : Below w.heap.size w W) : GAt W a n g := fun k hk => by
  obtain ⟨b, off, e, h1, h2⟩ := h k hk
  exact ⟨b, off, e, Nat.lt_of_lt_of_le h1 hb.size, (hb.cell (p := ⟨b, off + k, none⟩) h1).trans h2⟩
theorem GAt.fr {M : Nat → Prop} {w W : World} {a : Option Addr} {n : Nat} {g : Nat → Int} (h : GAt w a n g) (hf : Fr M w W) (hM : ∀ b off, a = some ⟨b, off, none⟩ → 0 < n → ¬ M b) : GAt W a n g := fun k hk => by
  obtain ⟨b, off, e, h1, h2⟩ := h k hk
  exact ⟨b, off, e, Nat.lt_of_lt_of_le h1 hf.size, hf.cell (p := ⟨b, off + k, none⟩) (hM b off e (by omega)) h2⟩
/-- The least of some numbers, beside one. -/
def mnU (g : Nat → Int) (x : Int) (L : List Nat) : Int := L.foldl (fun a i => min a (g i)) x
theorem mnU_snoc (g : Nat → Int) (x : Int) (L : List Nat) (k : Nat) : mnU g x (L ++ [k]) = min (mnU g x L) (g k) := by unfold mnU; rw [List.foldl_append]; rfl
theorem upL_lt {lf : Nat → Int} {m : Nat} (hv : ∀ k, k < m → lf k < k ∧ -1 ≤ lf k) : ∀ d x, x < (m : Int) → ∀ k ∈ upL lf d x, k < m
  | 0, _, _, k, hk => by cases hk
  | d + 1, x, hx, k, hk => by
    unfold upL at hk
    by_cases h : x < 0
    · rw [if_pos h] at hk; cases hk
    · rw [if_neg h] at hk
      rcases List.mem_cons.1 hk with rfl | hk
      · omega
      · have := hv x.toNat (by omega)
        exact upL_lt hv d _ (by omega) k hk
theorem up_mk (lv iv : Value) (i : Nat) (w : World) :
    Calls Tryz.prog 46 #[.agg #[lv, iv], .int .i64 (i : Nat)] w fun e w' => e = .returned (.func (.func 59) #[] #[.pointer (some ⟨w.heap.size + 1, 0, none⟩), .pointer (some ⟨w.heap.size, 0, none⟩)]) ∧ (w.alloc (.cells #[lv, iv] 68)).alloc (.cells #[.int .i64 (i : Nat)] 3) = w' := by
  go_enter Tryz.func46, Tryz.ntmps46
  go_wp2
  go_ret
  exact ⟨rfl, rfl⟩
set_option maxRecDepth 100000 in
set_option maxHeartbeats 4000000 in
theorem least_any (al : Option Addr) (m capl : Nat) (iv : Value) (lm : Nat → List UInt8) (lf : Nat → Int) (a : Option Addr) (cap : Nat) (g : Nat → Int) (i : Nat) (w : World) (hL : LkAt w al m lm lf) (hm : m ≤ 1000) (hv : ∀ k, k < m → lf k < k ∧ -1 ≤ lf k) (hi : i < m) (hG : GAt w a m g) :
    Calls Tryz.prog 32 #[.agg #[.slice al m capl, iv], .slice a m cap, .int .i64 (i : Nat)] w fun e w' => e = .returned (.int .i64 (mnU g (g i) (upL lf (m + 1) (i : Nat)))) ∧ Below w.heap.size w w' := by
  have HL := Lib.hid hL
  have HG := Lib.hid hG
  have hiI : (i : Int) < (m : Int) := by omega
  obtain ⟨b, off, ea, hb, c0⟩ := hG i hi
  have HM := Lib.hid (fun W => up_mk (.slice al m capl) iv i W)
  clear hL hG
  subst ea
  refine (callsIn_wide (n := 6)).1 ?_
  refine callsIn_of_wp_marks Tryz.func32 rfl trivial ?_ rfl
  simp only [Tryz.ntmps32, List.size_toArray, List.length_cons, List.length_nil, Nat.reduceAdd, Nat.reduceSub, Array.replicate_succ, Array.replicate_zero, List.push_toArray, List.append_toArray, List.nil_append, List.cons_append]
  refine wpIn_wide.2 ?_
  go_wp2_with (go_at_call 46; refine (HM.out _).mono ?_; rintro e w9 ⟨rfl, rfl⟩)
  obtain ⟨W0, hW0⟩ : ∃ W0, ((((w.alloc (.cells #[.slice al m capl, iv] 68)).alloc (.cells #[.slice (some ⟨b, off, none⟩) m cap] 39)).alloc (.cells #[.int .i64 (g i)] 3)).alloc (.cells #[.slice al m capl, iv] 68)).alloc (.cells #[.int .i64 (i : Nat)] 3) = W0 := ⟨_, rfl⟩
  have B0 : Below w.heap.size w W0 := by rw [← hW0]; (repeat' (first | (with_reducible exact Below.refl _ _) | (with_reducible assumption) | (with_reducible refine Below.alloc ?_ ?_ _) | (with_reducible refine Below.drew ?_) | (with_reducible refine below_drewN ?_ _) | (with_reducible refine Below.setCell ?_ ?_ _) | (with_reducible refine below_after ?_ ?_ _) | (with_reducible refine below_set ?_) | (with_reducible refine After.size_le _ ?_) | (with_reducible refine size_alloc_le ?_) | (with_reducible refine size_set_le ?_) | (with_reducible refine size_drewN_le ?_) | go_size))
  have es : W0.heap.size = w.heap.size + 5 := by rw [← hW0]; simp
  have cl : W0.cell? ⟨w.heap.size + 1 + 1, 0, none⟩ = some (.int .i64 (g i)) := by rw [← hW0]; simp [go_sem]
  have fl : W0.frozen? ⟨w.heap.size + 1 + 1, 0, none⟩ = false := by rw [← hW0]; simp [go_sem]
  have cn : W0.cell? ⟨w.heap.size + 1, 0, none⟩ = some (.slice (some ⟨b, off, none⟩) m cap) := by rw [← hW0]; simp [go_sem]
  have cf : W0.cell? ⟨w.heap.size + 1 + 1 + 1 + 1, 0, none⟩ = some (.int .i64 (i : Nat)) := by rw [← hW0]; simp [go_sem]
  have cr : W0.cell? ⟨w.heap.size + 1 + 1 + 1, 0, none⟩ = some (.slice al m capl) := by rw [← hW0]; simp [go_sem]
  have hab : ∀ b off, al = some ⟨b, off, none⟩ → 0 < m → b < w.heap.size := fun b off e h => by
    obtain ⟨b', off', e', h1, _⟩ := HL.out 0 h
    rw [e] at e'; cases e'; exact h1
  have HL0 := HL.out.on B0
  rw [hW0]
  clear hW0 HL HM
  refine wpIn_wide (n := 6).1 ?_
  refine wpIn_rangeFunc_fr rfl (by omega) (gf := 59) (lb := #[.pointer (some ⟨w.heap.size + 1 + 1 + 1 + 1, 0, none⟩), .pointer (some ⟨w.heap.size + 1 + 1 + 1, 0, none⟩)]) rfl trivial (enters_of Tryz.func59 (by kernel_rfl) rfl)
    (O := fun _ => False) (M := fun j => j = w.heap.size + 1 + 1) (fun _ h => h.elim)
    (up1_fr 5 (by omega) (w.heap.size + 1 + 1 + 1 + 1) (w.heap.size + 1 + 1 + 1) al m capl lm lf _ W0 (fun j h => by omega) (by omega) (fun b off e h0 h => by have := hab b off e h0; omega) hm i hi hv cf cr HL0)
    (fun j h => by omega) (fun _ => rfl)
    (fun pre V => V.cell? ⟨w.heap.size + 1 + 1, 0, none⟩ = some (.int .i64 (mnU g (g i) pre)) ∧ V.frozen? ⟨w.heap.size + 1 + 1, 0, none⟩ = false ∧ V.cell? ⟨w.heap.size + 1, 0, none⟩ = some (.slice (some ⟨b, off, none⟩) m cap) ∧ Below w.heap.size w V)
    (fun c pre V => False)
    (fun pre A A' hs hf => by
      obtain ⟨h1, h2, h3, h4⟩ := hs
      have nb : ∀ i, i < W0.heap.size → ¬ OwnM (fun _ => False) W0.heap.size (W0.heap.size + 2 + 0) A i := fun i hi h => by
        rcases h with h | ⟨h, _⟩
        · exact h
        · omega
      exact ⟨hf.cell (p := ⟨w.heap.size + 1 + 1, 0, none⟩) (nb _ (by dsimp only; omega)) h1, (hf.frozen (p := ⟨w.heap.size + 1 + 1, 0, none⟩) (nb _ (by dsimp only; omega)) (World.block_lt_of_cell? A _ h1)).trans h2, hf.cell (p := ⟨w.heap.size + 1, 0, none⟩) (nb _ (by dsimp only; omega)) h3, h4.trans (hf.below h4.size (fun j hj => nb j (by omega)))⟩)
    (fun c pre A A' hs hf => hs)
    ⟨cl, fl, cn, B0⟩
    (fun x a' V => a' = { tmps := #[.agg #[.slice al m capl, iv], .slice (some ⟨b, off, none⟩) m cap, .int .i64 (i : Nat), .pointer (some ⟨w.heap.size, 0, none⟩), .pointer (some ⟨w.heap.size + 1, 0, none⟩), undef, .int .i64 0, .pointer (some ⟨w.heap.size + 1 + 1, 0, none⟩), .int .i64 (x : Nat), .slice (some ⟨b, off, none⟩) m cap, .int .i64 (i : Nat), .pointer (some ⟨b, off + i, none⟩), .int .i64 (g i), .agg #[.slice al m capl, iv], .int .i64 (i : Nat), .func (.func 59) #[] #[.pointer (some ⟨w.heap.size + 1 + 1 + 1 + 1, 0, none⟩), .pointer (some ⟨w.heap.size + 1 + 1 + 1, 0, none⟩)], .int .i64 (x : Nat), undef, undef, undef, undef, undef, undef, undef], defers := [] })
    (fun x a' _ A A' hs hf => hs)
    ?assign ?body ?done ?stop
  case assign =>
    rintro l' pre x V K hnx hI hsz hK
    gi_wp2
    exact hK _ _ (Fr.refl V) hI rfl
  case body =>
    rintro l' pre x a' V ⟨r, hr⟩ ⟨rst, hnx⟩ ⟨h1, h2, h3, h4⟩ rfl hsz
    have hxm : x < m := upL_lt hv _ _ hiI x (by rw [hnx]; simp)
    have hxI : (x : Int) < (m : Int) := by omega
    obtain ⟨b', off', e, hb', d0⟩ := (HG.out.on h4) x hxm
    cases e
    have fin : Fr (RndM NoZ (fun j => j = w.heap.size + 1 + 1) (W0.heap.size + 2 + 0) V) V (V.setCell ⟨w.heap.size + 1 + 1, 0, none⟩ (.int .i64 (min (mnU g (g i) pre) (g x)))).drew ∧ (V.setCell ⟨w.heap.size + 1 + 1, 0, none⟩ (.int .i64 (min (mnU g (g i) pre) (g x)))).drew.cell? ⟨w.heap.size + 1 + 1, 0, none⟩ = some (.int .i64 (mnU g (g i) (pre ++ [x]))) ∧ (V.setCell ⟨w.heap.size + 1 + 1, 0, none⟩ (.int .i64 (min (mnU g (g i) pre) (g x)))).drew.frozen? ⟨w.heap.size + 1 + 1, 0, none⟩ = false ∧ (V.setCell ⟨w.heap.size + 1 + 1, 0, none⟩ (.int .i64 (min (mnU g (g i) pre) (g x)))).drew.cell? ⟨w.heap.size + 1, 0, none⟩ = some (.slice (some ⟨b, off, none⟩) m cap) ∧ Below w.heap.size w (V.setCell ⟨w.heap.size + 1 + 1, 0, none⟩ (.int .i64 (min (mnU g (g i) pre) (g x)))).drew := by
      have F4 : Fr (fun j => j = w.heap.size + 1 + 1) V (V.setCell ⟨w.heap.size + 1 + 1, 0, none⟩ (.int .i64 (min (mnU g (g i) pre) (g x)))).drew := (Fr.setCell (M := fun j => j = w.heap.size + 1 + 1) (Fr.refl V) (p := ⟨w.heap.size + 1 + 1, 0, none⟩) (.inl rfl) _).drew
      refine ⟨F4.mono fun j _ h => .inl h, ?_, ?_, F4.cell (p := ⟨w.heap.size + 1, 0, none⟩) (by dsimp only; omega) h3, (h4.setCell (by dsimp only; omega) _).drew⟩
      · rw [mnU_snoc]
        exact World.cell?_setCell_same _ _ _ h1
      · show (V.setCell _ _).frozen? _ = false
        simpa using h2
    have FIN := Lib.hid fin
    clear fin hnx hr
    gi_wp2
    gi_region
    all_goals
      gi_wp2
      exact FIN.out
  case done =>
    rintro D ys V hD rfl ⟨h1, h2, h3, h4⟩ hK
    have fp : Fr (fun j => W0.heap.size ≤ j) V (V.putObj D (.deferred none)) := (Fr.put V D _).mono fun j _ e => by omega
    have HBf := Lib.hid (h4.trans (fp.below (by have := h4.size; omega) (fun j h => by have := B0.size; omega)))
    gi_wp2
    go_wp2
    refine ⟨by simp, .inl ⟨_, _, rfl, run_takeDeferred hK, ?_⟩⟩
    exact ⟨_, results_tmp rfl _ _ _, rfl, HBf.out⟩
  case stop =>
    rintro D c pre X hD hSp h hK
    exact h.elim
end Go.Proofs.YtkgfaemdgmmdkaaGreatDoor.Gx
