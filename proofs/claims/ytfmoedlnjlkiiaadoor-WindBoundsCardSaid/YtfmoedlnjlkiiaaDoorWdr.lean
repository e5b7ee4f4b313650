/- The reference's states of a rule, minute by minute. -/
import Derived.Test.YtfmoedlnjlkiiaaDoorWdv
import Derived.Laws.MakeOwn
import Derived.Laws.OwnMore
import Derived.Lib.SmallJoins
import Derived.OwnWalk
namespace Go.Proofs.YtfmoedlnjlkiiaaDoor
open Go.RowKit
attribute [local go_sem] After.cell After.frozen After.lt After.le After.ne After.ne' After.set_eq After.size_set After.lt_add

theorem ownsR_stay {W W' : World} {B : Nat} {T : TypeId} {c n : Nat} {v : Value} {xs : List Value} (h : W.ownsRow B T c v n xs) (hb : Below W.heap.size W W') : W'.ownsRow B T c v n xs := by
  obtain ⟨q1, q2 | ⟨g', cap', cur, a1, a2, a3, a4⟩⟩ := h
  · exact ⟨q1, .inl q2⟩
  · exact ⟨q1, .inr ⟨g', cap', cur, a1, a2, (hb.block g' (Array.getElem?_eq_some_iff.1 a3).1).trans a3, a4⟩⟩
theorem ownsR_shape {W : World} {B : Nat} {T : TypeId} {c n : Nat} {v : Value} {xs : List Value} (h : W.ownsRow B T c v n xs) : ∃ a cap, v = .slice a n cap := by
  rcases Nat.eq_zero_or_pos n with rfl | h0
  · rcases Go.Joins.ownsRow_forms h with ⟨rfl, _⟩ | ⟨g, c, rfl⟩
    · exact ⟨_, _, rfl⟩
    · exact ⟨_, _, rfl⟩
  · obtain ⟨g, cap, rfl⟩ := Go.Joins.ownsRow_form h h0
    exact ⟨_, _, rfl⟩

def nxS (s g c st x : Int) : Int := if st < 0 then (if x < 0 ∨ s ≤ x then 0 else -1) else (if x < 0 ∨ g ≤ x then 0 else if st + 1 = c then -1 else st + 1)
def gxS (s st x : Int) : Bool := decide (st < 0) && !decide (x < 0 ∨ s ≤ x)
theorem rnext_any (s g c st x : Int) (w : World) (h0 : -1 ≤ st) (h1 : st ≤ 1000) :
    Calls Tryd.prog 65 #[.agg #[.int .i64 s, .int .i64 g, .int .i64 c], .int .i64 st, .int .i64 x] w fun e w' => e = .returned (.tuple #[.int .i64 (nxS s g c st x), .bool (gxS s st x)]) ∧ Below w.heap.size w w' := by
  unfold nxS gxS
  by_cases a0 : st < 0
  · rw [if_pos a0, decide_eq_true a0]
    by_cases a1 : x < 0
    · rw [if_pos (.inl a1), decide_eq_true (show x < 0 ∨ s ≤ x from .inl a1)]
      go_enter Tryd.func65, Tryd.ntmps65
      go_wp2
      go_returns
      exact ⟨rfl, by (repeat' (first | (with_reducible exact Below.refl _ _) | (with_reducible assumption) | (with_reducible refine Below.alloc ?_ ?_ _) | (with_reducible refine Below.drew ?_) | (with_reducible refine below_drewN ?_ _) | (with_reducible refine Below.setCell ?_ ?_ _) | (with_reducible refine below_after ?_ ?_ _) | (with_reducible refine below_set ?_) | (with_reducible refine After.size_le _ ?_) | (with_reducible refine size_alloc_le ?_) | (with_reducible refine size_set_le ?_) | (with_reducible refine size_drewN_le ?_) | go_size))⟩
    · by_cases a2 : s ≤ x
      · rw [if_pos (.inr a2), decide_eq_true (show x < 0 ∨ s ≤ x from .inr a2)]
        go_enter Tryd.func65, Tryd.ntmps65
        go_wp2
        go_returns
        exact ⟨rfl, by (repeat' (first | (with_reducible exact Below.refl _ _) | (with_reducible assumption) | (with_reducible refine Below.alloc ?_ ?_ _) | (with_reducible refine Below.drew ?_) | (with_reducible refine below_drewN ?_ _) | (with_reducible refine Below.setCell ?_ ?_ _) | (with_reducible refine below_after ?_ ?_ _) | (with_reducible refine below_set ?_) | (with_reducible refine After.size_le _ ?_) | (with_reducible refine size_alloc_le ?_) | (with_reducible refine size_set_le ?_) | (with_reducible refine size_drewN_le ?_) | go_size))⟩
      · rw [if_neg (by omega), decide_eq_false (show ¬ (x < 0 ∨ s ≤ x) by omega)]
        go_enter Tryd.func65, Tryd.ntmps65
        go_wp2
        go_returns
        exact ⟨rfl, by (repeat' (first | (with_reducible exact Below.refl _ _) | (with_reducible assumption) | (with_reducible refine Below.alloc ?_ ?_ _) | (with_reducible refine Below.drew ?_) | (with_reducible refine below_drewN ?_ _) | (with_reducible refine Below.setCell ?_ ?_ _) | (with_reducible refine below_after ?_ ?_ _) | (with_reducible refine below_set ?_) | (with_reducible refine After.size_le _ ?_) | (with_reducible refine size_alloc_le ?_) | (with_reducible refine size_set_le ?_) | (with_reducible refine size_drewN_le ?_) | go_size))⟩
  · rw [if_neg a0, decide_eq_false a0, Bool.false_and]
    by_cases a1 : x < 0
    · rw [if_pos (.inl a1)]
      go_enter Tryd.func65, Tryd.ntmps65
      go_wp2
      go_returns
      exact ⟨rfl, by (repeat' (first | (with_reducible exact Below.refl _ _) | (with_reducible assumption) | (with_reducible refine Below.alloc ?_ ?_ _) | (with_reducible refine Below.drew ?_) | (with_reducible refine below_drewN ?_ _) | (with_reducible refine Below.setCell ?_ ?_ _) | (with_reducible refine below_after ?_ ?_ _) | (with_reducible refine below_set ?_) | (with_reducible refine After.size_le _ ?_) | (with_reducible refine size_alloc_le ?_) | (with_reducible refine size_set_le ?_) | (with_reducible refine size_drewN_le ?_) | go_size))⟩
    · by_cases a2 : g ≤ x
      · rw [if_pos (.inr a2)]
        go_enter Tryd.func65, Tryd.ntmps65
        go_wp2
        go_returns
        exact ⟨rfl, by (repeat' (first | (with_reducible exact Below.refl _ _) | (with_reducible assumption) | (with_reducible refine Below.alloc ?_ ?_ _) | (with_reducible refine Below.drew ?_) | (with_reducible refine below_drewN ?_ _) | (with_reducible refine Below.setCell ?_ ?_ _) | (with_reducible refine below_after ?_ ?_ _) | (with_reducible refine below_set ?_) | (with_reducible refine After.size_le _ ?_) | (with_reducible refine size_alloc_le ?_) | (with_reducible refine size_set_le ?_) | (with_reducible refine size_drewN_le ?_) | go_size))⟩
      · rw [if_neg (by omega)]
        by_cases a3 : st + 1 = c
        · rw [if_pos a3]
          subst a3
          go_enter Tryd.func65, Tryd.ntmps65
          go_wp2
          go_returns
          exact ⟨rfl, by (repeat' (first | (with_reducible exact Below.refl _ _) | (with_reducible assumption) | (with_reducible refine Below.alloc ?_ ?_ _) | (with_reducible refine Below.drew ?_) | (with_reducible refine below_drewN ?_ _) | (with_reducible refine Below.setCell ?_ ?_ _) | (with_reducible refine below_after ?_ ?_ _) | (with_reducible refine below_set ?_) | (with_reducible refine After.size_le _ ?_) | (with_reducible refine size_alloc_le ?_) | (with_reducible refine size_set_le ?_) | (with_reducible refine size_drewN_le ?_) | go_size))⟩
        · rw [if_neg a3]
          have a3' : (st + 1 == c) = false := beq_eq_false_iff_ne.2 a3
          go_enter Tryd.func65, Tryd.ntmps65
          go_wp2
          go_returns
          exact ⟨rfl, by (repeat' (first | (with_reducible exact Below.refl _ _) | (with_reducible assumption) | (with_reducible refine Below.alloc ?_ ?_ _) | (with_reducible refine Below.drew ?_) | (with_reducible refine below_drewN ?_ _) | (with_reducible refine Below.setCell ?_ ?_ _) | (with_reducible refine below_after ?_ ?_ _) | (with_reducible refine below_set ?_) | (with_reducible refine After.size_le _ ?_) | (with_reducible refine size_alloc_le ?_) | (with_reducible refine size_set_le ?_) | (with_reducible refine size_drewN_le ?_) | go_size))⟩
theorem nxS_st {s g c w x : Int} (hc : 1 ≤ c) (hw : 0 ≤ w ∧ w ≤ c) (hx : -1 ≤ x) : nxS s g c (stW c w) x = stW c (nxW s g c w x) := (stW_next hc hw hx).symm
theorem gxS_gW {s g c : Int} {f : Nat → Int} {k : Nat} (hc : 1 ≤ c) (hx : -1 ≤ f k) : gxS s (stW c (wt s g c f k)) (f k) = gW s g c f k := (gW_state hc hx).symm
theorem stW_bd {c w : Int} (hc : 1 ≤ c) (hw : 0 ≤ w ∧ w ≤ c) : -1 ≤ stW c w ∧ stW c w ≤ c - 1 := by unfold stW; split <;> omega

/-- The first k of n marks. -/
def bxs (p : Nat → Bool) (n k : Nat) : List Value := (List.range n).map fun i => .bool (decide (i < k) && p i)
theorem bxs_len (p : Nat → Bool) (n k : Nat) : (bxs p n k).length = n := by simp [bxs]
theorem bxs_get {p : Nat → Bool} {n k i : Nat} (h : i < n) : (bxs p n k)[i]? = some (.bool (decide (i < k) && p i)) := by
  unfold bxs
  rw [List.getElem?_map, List.getElem?_range h]; rfl
theorem bxs_set {p : Nat → Bool} {n k : Nat} (h : k < n) : (bxs p n k).set k (.bool (p k)) = bxs p n (k + 1) := by
  apply List.ext_getElem?
  intro i
  rw [List.getElem?_set]
  by_cases hi : i < n
  · rw [bxs_get hi, bxs_get hi]
    by_cases e : k = i
    · subst e
      rw [if_pos rfl, if_pos (by rw [bxs_len]; exact h)]
      simp
    · rw [if_neg e]
      congr 3
      exact decide_eq_decide.2 (by omega)
  · rw [List.getElem?_eq_none (by rw [bxs_len]; omega : (bxs p n k).length ≤ i), List.getElem?_eq_none (by rw [bxs_len]; omega), if_neg (by omega)]
theorem bxs_full (p : Nat → Bool) (n : Nat) {i : Nat} (h : i < n) : (bxs p n n)[i]? = some (.bool (p i)) := by
  rw [bxs_get h, decide_eq_true h, Bool.true_and]
theorem boolInfo : (Tryd.prog.info? 4).map (fun i => (i.zero, i.size, i.bytes)) = some (some (.bool false), 1, 1) := by kernel_rfl
theorem made_bools (p : Nat → Bool) (n : Nat) : (madeCells #[.bool false] (n * 1)).toList = bxs p n 0 := by
  apply List.ext_getElem?
  intro i
  unfold madeCells bxs
  simp only [Array.toList_map, Array.toList_range, List.getElem?_map]
  by_cases h : i < n
  · rw [List.getElem?_range (by omega), List.getElem?_range h]
    simp [Nat.mod_one]
  · rw [List.getElem?_eq_none (by simp; omega), List.getElem?_eq_none (by simp; omega)]
    rfl

set_option maxRecDepth 100000 in
set_option maxHeartbeats 2000000 in
theorem rgoing_any (s g c : Int) (a : Option Addr) (n cap : Nat) (f : Nat → Int) (w : World) (hA : IAt w a n f) (hn : n ≤ 2000) (hc : 1 ≤ c ∧ c ≤ 1000) (hf : ∀ k, k < n → -1 ≤ f k) :
    Calls Tryd.prog 54 #[.agg #[.int .i64 s, .int .i64 g, .int .i64 c], .slice a n cap] w fun e w' => (∃ gg, e = .returned (.tuple #[.slice (some ⟨gg, 0, none⟩) n n, .int .i64 (stW c (wt s g c f n))]) ∧ w'.ownsRow w.heap.size 4 1 (.slice (some ⟨gg, 0, none⟩) n n) n (bxs (gW s g c f) n n)) ∧ Below w.heap.size w w' := by
  have HA := Lib.hid hA
  have HF := Lib.hid hf
  obtain ⟨hc1, hc2⟩ := hc
  clear hA hf
  obtain ⟨i0, hi, hz0, hz1, hz2⟩ := info_parts boolInfo
  have hmk := fun w' => run_make (P := Tryd.prog) w' 73 4 i0 _ Tryd.underlying73 hi hz0 .i64 .i64 (n : Int) (n : Int) (by omega) (by omega) (by rw [hz2]; omega) (by omega)
  rw [hz1] at hmk
  simp only [Int.toNat_natCast] at hmk
  have hnI : (n : Int) ≤ 2000 := by omega
  go_enter Tryd.func54, Tryd.ntmps54
  go_wp2
  clear hmk
  have hO : ((w.alloc (.cells #[.int .i64 s, .int .i64 g, .int .i64 c] 23)).alloc (.cells (madeCells #[.bool false] (n * 1)) 4)).ownsRow w.heap.size 4 1 (.slice (some ⟨w.heap.size + 1, 0, none⟩) n n) n (bxs (gW s g c f) n 0) := by
    have := World.ownsRow_lit (base := w.heap.size) (size := 1) (e := 4) (w.alloc (.cells #[.int .i64 s, .int .i64 g, .int .i64 c] 23)) (madeCells #[.bool false] (n * 1)) n (by simp) (by unfold maxLen; omega) (by simp [madeCells])
    rw [made_bools (gW s g c f)] at this
    simpa using this
  rw [Nat.mul_one] at hO
  obtain ⟨W0, hW0⟩ : ∃ W0, (w.alloc (.cells #[.int .i64 s, .int .i64 g, .int .i64 c] 23)).alloc (.cells (madeCells #[.bool false] n) 4) = W0 := ⟨_, rfl⟩
  have r0 : W0.cell? ⟨w.heap.size, 0, none⟩ = some (.int .i64 s) := by rw [← hW0]; simp [go_sem]
  have r1 : W0.cell? ⟨w.heap.size, 1, none⟩ = some (.int .i64 g) := by rw [← hW0]; simp [go_sem]
  have r2 : W0.cell? ⟨w.heap.size, 2, none⟩ = some (.int .i64 c) := by rw [← hW0]; simp [go_sem]
  have hB0 : Below w.heap.size w W0 := by rw [← hW0]; (repeat' (first | (with_reducible exact Below.refl _ _) | (with_reducible assumption) | (with_reducible refine Below.alloc ?_ ?_ _) | (with_reducible refine Below.drew ?_) | (with_reducible refine below_drewN ?_ _) | (with_reducible refine Below.setCell ?_ ?_ _) | (with_reducible refine below_after ?_ ?_ _) | (with_reducible refine below_set ?_) | (with_reducible refine After.size_le _ ?_) | (with_reducible refine size_alloc_le ?_) | (with_reducible refine size_set_le ?_) | (with_reducible refine size_drewN_le ?_) | go_size))
  have hS0 : W0.heap.size = w.heap.size + 2 := by rw [← hW0]; simp
  rw [hW0] at hO ⊢
  clear hW0
  go_loopw [7, 8] (fun v i wr => ∃ k : Nat, k ≤ n ∧ i = .int .i64 k ∧ v = .int .i64 (stW c (wt s g c f k)) ∧ wr.ownsRow w.heap.size 4 1 (.slice (some ⟨w.heap.size + 1, 0, none⟩) n n) n (bxs (gW s g c f) n k) ∧ Below w.heap.size w wr ∧ wr.cell? ⟨w.heap.size, 0, none⟩ = some (.int .i64 s) ∧ wr.cell? ⟨w.heap.size, 1, none⟩ = some (.int .i64 g) ∧ wr.cell? ⟨w.heap.size, 2, none⟩ = some (.int .i64 c)) (fun _ i _ => n - (intOf i).toNat)
  case atStart => exact ⟨0, by omega, rfl, rfl, hO, hB0, r0, r1, r2⟩
  case round =>
    obtain ⟨k, hk, rfl, rfl, hO, hB, r0, r1, r2⟩ := hrel
    by_cases hlt : k < n
    · obtain ⟨b, off, rfl, hb, hcell⟩ := HA.out k hlt
      have hcr := (hB.cell (p := ⟨b, off + k, none⟩) hb).trans hcell
      have hbr := Nat.lt_of_lt_of_le hb hB.size
      have hwt := wt_bd (s := s) (g := g) hc1 f k
      have hst := stW_bd hc1 hwt
      have HN := Lib.hid (fun W => rnext_any s g c (stW c (wt s g c f k)) (f k) W (by omega) (by omega))
      rw [nxS_st hc1 hwt (HF.out k hlt), gxS_gW hc1 (HF.out k hlt)] at HN
      have hl1 : Hid (wt s g c f (k + 1) = nxW s g c (wt s g c f k) (f k)) := Lib.hid rfl
      have hset := Lib.hid (bxs_set (p := gW s g c f) hlt)
      have gl := (hO.lt _ rfl).2
      have HO := Lib.hid hO
      have HB := Lib.hid hB
      have hsB := hB.size
      have HR := Lib.hid (And.intro r0 (And.intro r1 r2))
      clear hO hB hcell
      generalize stW c (wt s g c f k) = u at *
      generalize nxW s g c (wt s g c f k) (f k) = u' at *
      generalize f k = x at *
      generalize gW s g c f k = z at *
      go_wp2_with fail
      go_region_with (go_at_call 65; refine (HN.out _).mono ?_; rintro e w2 ⟨rfl, hw2⟩; have hO2 := ownsR_stay (W := wr.drew) HO.out.drew hw2; have e0 := hO2.cellAt k (by omega); rw [bxs_get hlt] at e0; have f0 := hO2.frozenAt k; have HO2 := Lib.hid hO2; clear hO2; have HW2 := Lib.hid hw2; clear hw2)
      all_goals
        go_wp2
        go_roundw
        case rel =>
          have hst := (HO2.out.stored k (.bool z)).1
          rw [hset.out] at hst
          obtain ⟨q0, q1, q2⟩ := HR.out
          have hb2 : Below wr.heap.size wr w2 := ((Below.refl _ wr).drew).trans HW2.out
          have keep : ∀ (j : Nat) (u : Value), wr.cell? ⟨w.heap.size, j, none⟩ = some u → (w2.setCell ⟨w.heap.size + 1, k, none⟩ (.bool z)).cell? ⟨w.heap.size, j, none⟩ = some u := fun j u h => by
            rw [World.cell?_setCell_other _ _ _ _ (by simp)]
            exact (hb2.cell (p := ⟨w.heap.size, j, none⟩) (by simp; omega)).trans h
          exact ⟨k + 1, by omega, by go_num, by rw [hl1.out], hst, (HB.out.trans (hb2.mono hsB)).setCell (by simp) _, keep 0 _ q0, keep 1 _ q1, keep 2 _ q2⟩
        case measure => simp [intOf]; omega
    · obtain rfl : k = n := by omega
      go_wp2
      go_returns
      exact ⟨⟨_, rfl, hO⟩, hB⟩
end Go.Proofs.YtfmoedlnjlkiiaaDoor
