/- LeanFewer: the law's walk. -/
import Derived.Test.YtdhobjflfhijjaaFewm
import Derived.Test.YtdhobjflfhijjaaLproof
import Derived.Test.YtdhobjflfhijjaaPtsv
import Derived.Test.YtdhobjflfhijjaaRcmp
import Derived.Test.YtdhobjflfhijjaaLawLeastb
namespace Go.Proofs.Ytdhobjflfhijjaa
open Go.RowKit
attribute [local go_sem] After.cell After.frozen After.lt After.le After.ne After.ne' After.set_eq After.size_set After.lt_add

set_option maxRecDepth 100000 in
set_option maxHeartbeats 1000000 in
theorem leanFewer_long (ad : Option Addr) (n cap : Nat) (o : Int) (w : World) (hn : 40 < n) :
    Calls Try.prog 10 #[.slice ad n cap, .int .i64 o] w fun e w' => e = .returned (.bool true) ∧ Below w.heap.size w w' := by
  go_enter Try.func10, Try.ntmps10
  (go_wp2_with fail); refine calls_after (awake_any _) ?_; intro x1
  go_wp2
  go_ret
  exact ⟨rfl, by (repeat' (first | (with_reducible exact Below.refl _ _) | (with_reducible assumption) | (with_reducible refine Below.alloc ?_ ?_ _) | (with_reducible refine Below.drew ?_) | (with_reducible refine below_drewN ?_ _) | (with_reducible refine Below.setCell ?_ ?_ _) | (with_reducible refine below_after ?_ ?_ _) | (with_reducible refine below_set ?_) | (with_reducible refine After.size_le _ ?_) | (with_reducible refine size_alloc_le ?_) | (with_reducible refine size_set_le ?_) | (with_reducible refine size_drewN_le ?_) | go_size))⟩
set_option maxRecDepth 100000 in
set_option maxHeartbeats 1000000 in
theorem leanFewer_bad (ad : Option Addr) (n cap : Nat) (o : Int) (w : World) (hn : n ≤ 40) (hv : PtsSay w (.slice ad n cap) false) :
    Calls Try.prog 10 #[.slice ad n cap, .int .i64 o] w fun e w' => e = .returned (.bool true) ∧ Below w.heap.size w w' := by
  have HB : Hid (∀ W, Below w.heap.size w W → _) := fun W hW => bend_badv ad n cap W (fun W' hW' => hv W' (hW.trans (hW'.mono hW.size)))
  clear hv
  go_enter Try.func10, Try.ntmps10
  (go_wp2_with fail); refine calls_after (HB.out _ (by (repeat' (first | (with_reducible exact Below.refl _ _) | (with_reducible assumption) | (with_reducible refine Below.alloc ?_ ?_ _) | (with_reducible refine Below.drew ?_) | (with_reducible refine below_drewN ?_ _) | (with_reducible refine Below.setCell ?_ ?_ _) | (with_reducible refine below_after ?_ ?_ _) | (with_reducible refine below_set ?_) | (with_reducible refine After.size_le _ ?_) | (with_reducible refine size_alloc_le ?_) | (with_reducible refine size_set_le ?_) | (with_reducible refine size_drewN_le ?_) | go_size)))) ?_; intro x1
  (go_wp2_with fail); refine calls_after (awake_any _) ?_; intro x2
  go_wp2
  go_ret
  exact ⟨rfl, by (repeat' (first | (with_reducible exact Below.refl _ _) | (with_reducible assumption) | (with_reducible refine Below.alloc ?_ ?_ _) | (with_reducible refine Below.drew ?_) | (with_reducible refine below_drewN ?_ _) | (with_reducible refine Below.setCell ?_ ?_ _) | (with_reducible refine below_after ?_ ?_ _) | (with_reducible refine below_set ?_) | (with_reducible refine After.size_le _ ?_) | (with_reducible refine size_alloc_le ?_) | (with_reducible refine size_set_le ?_) | (with_reducible refine size_drewN_le ?_) | go_size))⟩

/-- The cells of points. -/
def ptC (x : Int × Int) : List Value := [.int .i64 x.1, .int .i64 x.2]
def ptCs (l : List (Int × Int)) : List Value := l.flatMap ptC
theorem ptCs_snoc (l : List (Int × Int)) (x : Int × Int) : ptCs (l ++ [x]) = ptCs l ++ ptC x := by simp [ptCs]
theorem ptCs_get : ∀ {l : List (Int × Int)} {i : Nat}, i < l.length → (ptCs l)[i * 2]? = some (.int .i64 (l.getD i (0, 0)).1) ∧ (ptCs l)[i * 2 + 1]? = some (.int .i64 (l.getD i (0, 0)).2)
  | x :: l, 0, _ => by simp [ptCs, ptC]
  | x :: l, i + 1, h => by
    have := ptCs_get (l := l) (i := i) (by simpa using h)
    have e : ptCs (x :: l) = ptC x ++ ptCs l := by simp [ptCs]
    rw [e, List.getElem?_append_right (by simp [ptC]; omega), List.getElem?_append_right (by simp [ptC]; omega)]
    simp only [ptC, List.length_cons, List.length_nil]
    rw [show (i + 1) * 2 - (0 + 1 + 1) = i * 2 by omega, show (i + 1) * 2 + 1 - (0 + 1 + 1) = i * 2 + 1 by omega]
    simpa using this
theorem ptInfo : (Try.prog.info? 37).map (fun i => (i.zero, i.size, i.bytes)) = some (some (.agg #[.int .i64 0, .int .i64 0]), 2, 16) := by kernel_rfl

theorem and31 (k : Nat) (h : k < 40) : 0 ≤ bits .and .i64 (k : Int) 31 ∧ bits .and .i64 (k : Int) 31 ≤ 31 :=
  (show ∀ k : Fin 40, 0 ≤ bits .and .i64 (k.val : Int) 31 ∧ bits .and .i64 (k.val : Int) 31 ≤ 31 by decide +kernel) ⟨k, h⟩

/-- Whether the first k of some numbers are all 0. -/
def allZ (f : Nat → Int) : Nat → Bool
  | 0 => true
  | k + 1 => allZ f k && (f k == 0)
theorem allZ_iff {f : Nat → Int} : ∀ {k : Nat}, allZ f k = true ↔ ∀ i, i < k → f i = 0
  | 0 => by simp [allZ]
  | k + 1 => by
    simp only [allZ, Bool.and_eq_true, beq_iff_eq, allZ_iff (k := k)]
    constructor
    · rintro ⟨h1, h2⟩ i hi
      rcases Nat.lt_or_ge i k with h | h
      · exact h1 i h
      · obtain rfl : i = k := by omega
        exact h2
    · exact fun h => ⟨fun i hi => h i (by omega), h k (by omega)⟩

set_option maxRecDepth 1000000 in
set_option maxHeartbeats 2000000 in
theorem leanFewer_walk (b off cap : Nat) (o : Int) (ps : List (Int × Int)) (w : World) (qN qD : List (Int × Int) → Int) (dN dD : Nat → Int) (bN bD A B D : Int) (hb : b < w.heap.size) (hl40 : ps.length ≤ 40)
    (HC : Hid (∀ W, Below w.heap.size w W → ∀ i, i < ps.length → W.cell? ⟨b, off + i * 2, none⟩ = some (.int .i64 (ps.getD i (0, 0)).1) ∧ W.cell? ⟨b, off + i * 2 + 1, none⟩ = some (.int .i64 (ps.getD i (0, 0)).2)))
    (HB : Hid (∀ W, Below w.heap.size w W → Calls Try.prog 42 #[.slice (some ⟨b, off, none⟩) ps.length cap] W fun e w' => e = .returned (.tuple #[.agg #[.int .i64 bN, .int .i64 bD], .int .i64 0]) ∧ Below W.heap.size W w'))
    (HBq : Hid (∀ (qs : List (Int × Int)) (g c : Nat) (W : World), qs.Sublist ps → 0 < qs.length → g < W.heap.size → (∀ i, i < qs.length → W.cell? ⟨g, 0 + i * 2, none⟩ = some (.int .i64 (qs.getD i (0, 0)).1) ∧ W.cell? ⟨g, 0 + i * 2 + 1, none⟩ = some (.int .i64 (qs.getD i (0, 0)).2)) →
      Calls Try.prog 42 #[.slice (some ⟨g, 0, none⟩) qs.length c] W fun e w' => e = .returned (.tuple #[.agg #[.int .i64 (qN qs), .int .i64 (qD qs)], .int .i64 0]) ∧ Below W.heap.size W w'))
    (HCq : Hid (∀ qs : List (Int × Int), qs.Sublist ps → 0 < qs.length → ∃ c : Int, c ≤ 0 ∧ ∀ W, Calls Try.prog 44 #[.agg #[.int .i64 (qN qs), .int .i64 (qD qs)], .agg #[.int .i64 bN, .int .i64 bD]] W fun e w' => e = .returned (.int .i64 c) ∧ Below W.heap.size W w'))
    (HN : Hid (∀ W, Below w.heap.size w W → Calls Try.prog 40 #[.slice (some ⟨b, off, none⟩) ps.length cap] W fun e w' => e = .returned (.tuple #[.agg #[.int .i64 A, .int .i64 B, .int .i64 D], .int .i64 0]) ∧ Below W.heap.size W w'))
    (HD : Hid (∀ i, i < ps.length → ∀ W, Calls Try.prog 32 #[.agg #[.int .i64 A, .int .i64 B, .int .i64 D], .agg #[.int .i64 (ps.getD i (0, 0)).1, .int .i64 (ps.getD i (0, 0)).2]] W fun e w' => e = .returned (.tuple #[.agg #[.int .i64 (dN i), .int .i64 (dD i)], .int .i64 0]) ∧ Below W.heap.size W w'))
    (HCd : Hid (∀ i, i < ps.length → ∃ c : Int, c ≤ 0 ∧ ∀ W, Calls Try.prog 44 #[.agg #[.int .i64 (dN i), .int .i64 (dD i)], .agg #[.int .i64 bN, .int .i64 bD]] W fun e w' => e = .returned (.int .i64 c) ∧ Below W.heap.size W w'))
    (HF : Hid ((∀ i, i < ps.length → dN i = 0) ↔ bN = 0)) :
    Calls Try.prog 10 #[.slice (some ⟨b, off, none⟩) ps.length cap, .int .i64 o] w fun e w' => e = .returned (.bool true) ∧ Below w.heap.size w w' := by
  obtain ⟨i0, hi, hz0, hz1, hz2⟩ := info_parts ptInfo
  go_enter Try.func10, Try.ntmps10
  (go_wp2_with fail); refine calls_after (HB.out _ (by (repeat' (first | (with_reducible exact Below.refl _ _) | (with_reducible assumption) | (with_reducible refine Below.alloc ?_ ?_ _) | (with_reducible refine Below.drew ?_) | (with_reducible refine below_drewN ?_ _) | (with_reducible refine Below.setCell ?_ ?_ _) | (with_reducible refine below_after ?_ ?_ _) | (with_reducible refine below_set ?_) | (with_reducible refine After.size_le _ ?_) | (with_reducible refine size_alloc_le ?_) | (with_reducible refine size_set_le ?_) | (with_reducible refine size_drewN_le ?_) | go_size)))) ?_; intro x1
  go_wp2
  obtain ⟨W1, hW1⟩ : ∃ W1, x1.w.alloc (.cells #[.int .i64 bN, .int .i64 bD] 43) = W1 := ⟨_, rfl⟩
  have hB1 : Below w.heap.size w W1 := by rw [← hW1]; (repeat' (first | (with_reducible exact Below.refl _ _) | (with_reducible assumption) | (with_reducible refine Below.alloc ?_ ?_ _) | (with_reducible refine Below.drew ?_) | (with_reducible refine below_drewN ?_ _) | (with_reducible refine Below.setCell ?_ ?_ _) | (with_reducible refine below_after ?_ ?_ _) | (with_reducible refine below_set ?_) | (with_reducible refine After.size_le _ ?_) | (with_reducible refine size_alloc_le ?_) | (with_reducible refine size_set_le ?_) | (with_reducible refine size_drewN_le ?_) | go_size))
  have hS : x1.w.heap.size < W1.heap.size := by rw [← hW1]; simp
  have s0 : W1.cell? ⟨x1.w.heap.size, 0, none⟩ = some (.int .i64 bN) := by rw [← hW1]; simp [go_sem]
  have s1 : W1.cell? ⟨x1.w.heap.size, 1, none⟩ = some (.int .i64 bD) := by rw [← hW1]; simp [go_sem]
  have hbW : b < W1.heap.size := Nat.lt_of_lt_of_le hb hB1.size
  have HC1 := Lib.hid (HC.out W1 hB1)
  rw [hW1]
  clear hW1 HC
  generalize x1.w.heap.size = S at *
  clear x1
  go_loopw [7, 8] (fun v i wr => ∃ (k : Nat) (qs : List (Int × Int)), k ≤ ps.length ∧ i = .int .i64 k ∧ qs.Sublist (ps.take k) ∧ wr.ownsRow W1.heap.size 37 2 v qs.length (ptCs qs) ∧ Below W1.heap.size W1 wr) (fun _ i _ => ps.length - (intOf i).toNat)
  case atStart => exact ⟨0, [], by omega, rfl, by simp, World.ownsRow_nil _ _ _ _, Below.refl _ _⟩
  case round =>
    obtain ⟨k, qs, hk, rfl, hsub, hown, hbel⟩ := hrel
    have HS := Lib.hid hsub
    clear hsub
    by_cases hlt : k < ps.length
    · obtain ⟨n1, n2⟩ := and31 k (by omega)
      obtain ⟨c1, c2⟩ := HC1.out k hlt
      have c1 := (hbel.cell (p := ⟨b, off + k * 2, none⟩) hbW).trans c1
      have c2 := (hbel.cell (p := ⟨b, off + k * 2 + 1, none⟩) hbW).trans c2
      have HT : Hid (ps.take (k + 1) = ps.take k ++ [ps.getD k (0, 0)]) := by
        rw [getD_of_lt hlt, List.take_succ_eq_append_getElem hlt]
        exact rfl
      generalize ps.getD k (0, 0) = p at *
      obtain ⟨ph, px⟩ := p
      dsimp only at *
      have hsz := hbel.size
      have hql : qs.length ≤ k := Nat.le_trans HS.out.length_le (List.length_take_le _ _)
      cases hX : (bits .and .i64 (o / 2 ^ (bits .and .i64 (k : Int) 31).toNat) 1 == 0)
      · go_wp2
        go_roundw
        case rel => exact ⟨k + 1, qs, by omega, by go_num, HS.out.trans (by rw [HT.out]; exact List.sublist_append_left _ _), hown, hbel⟩
        case measure => simp [intOf]; omega
      · go_wp2_with (at_builtin; refine wpList_append_own _ rfl _ _ 24 rfl W1.heap.size 37 i0 (.agg #[.int .i64 0, .int .i64 0]) 2 16 Try.underlying24 hi hz0 hz1 hz2 rfl (by decide) _ _ _ rfl (hown.alloc _) ⟨wr.heap.size, 0, none⟩ 1 1 [.int .i64 ph, .int .i64 px] rfl rfl (World.news_of_block (cs := #[.int .i64 ph, .int .i64 px]) (t := 37) (fr := (0, 0)) (heap_alloc_new wr _)) (by simp [Value.oneCell']) (by unfold maxLen; omega) (by omega) (by simp; omega) ?_; intro v' w1 hown' hgrow _)
        go_roundw
        case rel => exact ⟨k + 1, qs ++ [(ph, px)], by omega, by go_num, by rw [HT.out]; exact HS.out.append (List.Sublist.refl _), by rw [ptCs_snoc]; simpa [ptC] using hown', (hbel.alloc hbel.size _).grown hgrow (by simp; omega) (fun j e => (hown.lt j e).1)⟩
        case measure => simp [intOf]; omega
    · obtain rfl : k = ps.length := by omega
      have HS2 : Hid (qs.Sublist ps) := by
        have := HS.out
        rw [List.take_length] at this
        exact this
      clear HS
      have kS := Nat.lt_of_lt_of_le hS hbel.size
      have s0 := (hbel.cell (p := ⟨S, 0, none⟩) hS).trans s0
      have s1 := (hbel.cell (p := ⟨S, 1, none⟩) hS).trans s1
      have hwr := hB1.trans (hbel.mono hB1.size)
      have HCr : Hid (∀ i, i < ps.length → wr.cell? ⟨b, off + i * 2, none⟩ = some (.int .i64 (ps.getD i (0, 0)).1) ∧ wr.cell? ⟨b, off + i * 2 + 1, none⟩ = some (.int .i64 (ps.getD i (0, 0)).2)) := fun i hi => ⟨(hbel.cell (p := ⟨b, _, none⟩) hbW).trans (HC1.out i hi).1, (hbel.cell (p := ⟨b, _, none⟩) hbW).trans (HC1.out i hi).2⟩
      have hbr := Nat.lt_of_lt_of_le hbW hbel.size
      have hwz := hwr.size
      by_cases hq0 : qs.length = 0
      · have hv : u7 = .slice none 0 0 ∨ ∃ g c, u7 = .slice (some ⟨g, 0, none⟩) 0 c := by
          rcases Go.Joins.ownsRow_forms hown with h | ⟨g, c, h⟩
          · exact .inl h.1
          · rw [hq0] at h; exact .inr ⟨g, c, h⟩
        clear hown hbel hB1
        rcases hv with rfl | ⟨g, c, rfl⟩
        all_goals
          (go_wp2_with fail); refine calls_after (awake_any _) ?_; intro z1
          go_wp2
          go_ret
          exact ⟨rfl, by (repeat' (first | (with_reducible exact Below.refl _ _) | (with_reducible assumption) | (with_reducible refine Below.alloc ?_ ?_ _) | (with_reducible refine Below.drew ?_) | (with_reducible refine below_drewN ?_ _) | (with_reducible refine Below.setCell ?_ ?_ _) | (with_reducible refine below_after ?_ ?_ _) | (with_reducible refine below_set ?_) | (with_reducible refine After.size_le _ ?_) | (with_reducible refine size_alloc_le ?_) | (with_reducible refine size_set_le ?_) | (with_reducible refine size_drewN_le ?_) | go_size))⟩
      · obtain ⟨g, cap2, rfl⟩ := Go.Joins.ownsRow_form hown (show 0 < qs.length by omega)
        have hg := (hown.lt g rfl).2
        have HQ := Lib.hid (HBq.out qs g cap2 wr HS2.out (by omega) hg (fun i hi => by
          obtain ⟨e1, e2⟩ := ptCs_get hi
          rw [Nat.zero_add, hown.cellAt _ (by omega), hown.cellAt _ (by omega)]
          exact ⟨e1, e2⟩))
        obtain ⟨c, hc0, hcc⟩ := HCq.out qs HS2.out (by omega)
        have HCc := Lib.hid hcc
        clear hcc hown hbel hB1 HCq HBq HS2
        have hq1 : ((qs.length : Int) == 0) = false := beq_eq_false_iff_ne.2 (by omega)
        have kS1 : S < wr.heap.size + 1 := by omega
        generalize qN qs = qn at *
        generalize qD qs = qd at *
        generalize qs.length = m at *
        (go_wp2_with fail); refine calls_after (HQ.out) ?_; intro x2; have hz_x2 := x2.out.size; (try simp only [World.size_alloc] at hz_x2); (try simp only [World.size_setCell] at hz_x2); have k0_x2 : S < x2.w.heap.size := (by omega); have j0_x2 : S < x2.w.heap.size + 1 := (by omega); have k1_x2 : b < x2.w.heap.size := (by omega); have j1_x2 : b < x2.w.heap.size + 1 := (by omega)
        (go_wp2_with fail); refine calls_after (HCc.out _) ?_; intro x3; have hz_x3 := x3.out.size; (try simp only [World.size_alloc] at hz_x3); (try simp only [World.size_setCell] at hz_x3); have k0_x3 : S < x3.w.heap.size := (by omega); have j0_x3 : S < x3.w.heap.size + 1 := (by omega); have k1_x3 : x2.w.heap.size < x3.w.heap.size := (by omega); have j1_x3 : x2.w.heap.size < x3.w.heap.size + 1 := (by omega); have k2_x3 : b < x3.w.heap.size := (by omega); have j2_x3 : b < x3.w.heap.size + 1 := (by omega)
        (go_wp2_with fail); refine calls_after2 (HN.out _ (by (repeat' (first | (with_reducible exact Below.refl _ _) | (with_reducible assumption) | (with_reducible refine Below.alloc ?_ ?_ _) | (with_reducible refine Below.drew ?_) | (with_reducible refine below_drewN ?_ _) | (with_reducible refine Below.setCell ?_ ?_ _) | (with_reducible refine below_after ?_ ?_ _) | (with_reducible refine below_set ?_) | (with_reducible refine After.size_le _ ?_) | (with_reducible refine size_alloc_le ?_) | (with_reducible refine size_set_le ?_) | (with_reducible refine size_drewN_le ?_) | go_size)))) ?_; intro x4; have hz_x4 := x4.out.size; (try simp only [World.size_alloc] at hz_x4); (try simp only [World.size_setCell] at hz_x4); have k0_x4 : S < x4.w.heap.size := (by omega); have j0_x4 : S < x4.w.heap.size + 1 := (by omega); have k1_x4 : x2.w.heap.size < x4.w.heap.size := (by omega); have j1_x4 : x2.w.heap.size < x4.w.heap.size + 1 := (by omega); have k2_x4 : b < x4.w.heap.size := (by omega); have j2_x4 : b < x4.w.heap.size + 1 := (by omega)
        go_wp2
        obtain ⟨W2, hW2⟩ : ∃ W2, x4.w.alloc (.cells #[.int .i64 A, .int .i64 B, .int .i64 D] 35) = W2 := ⟨_, rfl⟩
        have hB2 : Below w.heap.size w W2 := by rw [← hW2]; (repeat' (first | (with_reducible exact Below.refl _ _) | (with_reducible assumption) | (with_reducible refine Below.alloc ?_ ?_ _) | (with_reducible refine Below.drew ?_) | (with_reducible refine below_drewN ?_ _) | (with_reducible refine Below.setCell ?_ ?_ _) | (with_reducible refine below_after ?_ ?_ _) | (with_reducible refine below_set ?_) | (with_reducible refine After.size_le _ ?_) | (with_reducible refine size_alloc_le ?_) | (with_reducible refine size_set_le ?_) | (with_reducible refine size_drewN_le ?_) | go_size))
        have on : ∀ (q : Addr), q.block < wr.heap.size → W2.cell? q = wr.cell? q := fun q hq => by
          have u1 := x2.out.size
          have u2 := x4.out.size
          simp only [World.size_alloc] at u2
          rw [← hW2, World.cell?_alloc_lt _ _ _ (by omega), x4.cell _ (by simp; omega), World.cell?_alloc_lt _ _ _ (by omega), x2.cell _ hq]
        have l0 : W2.cell? ⟨x4.w.heap.size, 0, none⟩ = some (.int .i64 A) := by rw [← hW2]; simp [go_sem]
        have l1 : W2.cell? ⟨x4.w.heap.size, 1, none⟩ = some (.int .i64 B) := by rw [← hW2]; simp [go_sem]
        have l2 : W2.cell? ⟨x4.w.heap.size, 2, none⟩ = some (.int .i64 D) := by rw [← hW2]; simp [go_sem]
        have s0 := (on _ kS).trans s0
        have s1 := (on _ kS).trans s1
        have HC2 : Hid (∀ i, i < ps.length → W2.cell? ⟨b, off + i * 2, none⟩ = some (.int .i64 (ps.getD i (0, 0)).1) ∧ W2.cell? ⟨b, off + i * 2 + 1, none⟩ = some (.int .i64 (ps.getD i (0, 0)).2)) := fun i hi => ⟨(on ⟨b, _, none⟩ hbr).trans (HCr.out i hi).1, (on ⟨b, _, none⟩ hbr).trans (HCr.out i hi).2⟩
        have hz2 : x4.w.heap.size < W2.heap.size := by rw [← hW2]; simp
        have kS2 : S < W2.heap.size := by omega
        have hb2 : b < W2.heap.size := by omega
        rw [hW2]
        clear on hW2 HCr HC1
        generalize x4.w.heap.size = L at *
        go_loopw [13, 14] (fun v i wr => ∃ k : Nat, k ≤ ps.length ∧ i = .int .i64 k ∧ v = .bool (allZ dN k) ∧ ∃ x : After W2, wr = x.w) (fun _ i _ => ps.length - (intOf i).toNat)
        case atStart => exact ⟨0, by omega, rfl, rfl, ⟨W2, Below.refl _ _⟩, rfl⟩
        case round =>
          obtain ⟨k, hk, rfl, rfl, z, rfl⟩ := hrel
          by_cases hlt : k < ps.length
          · obtain ⟨c1, c2⟩ := HC2.out k hlt
            have HDk := Lib.hid (HD.out k hlt)
            obtain ⟨ck, hck, hcc2⟩ := HCd.out k hlt
            have HCk := Lib.hid hcc2
            clear hcc2
            have HS1 : Hid (allZ dN (k + 1) = (allZ dN k && (dN k == 0))) := rfl
            generalize ps.getD k (0, 0) = p at *
            obtain ⟨ph, px⟩ := p
            generalize dN k = dn at *
            generalize dD k = dd at *
            generalize allZ dN k = az at *
            dsimp only at *
            have zS := z.size_lt kS2
            have zL := z.size_lt hz2
            have zb := z.size_lt hb2
            go_wp2_with fail
            go_region_held3 (fun w' => KeptB z.w w')
              (first | assumption | exact keptB_drew z.w | exact keptB_alloc (by assumption) | exact keptB_call (by assumption) (by assumption) | exact keptB_set (by assumption) (by first | (simp; done) | omega) | exact keptB_set (keptB_set (by assumption) (by first | (simp; done) | omega)) (by first | (simp; done) | omega) | exact keptB_realloc (by assumption) (by first | (simp; done) | omega))
              (first | (go_at_call 32; refine (HDk.out _).mono ?_; rintro e w1 ⟨rfl, hw1⟩; have hz1 := (keptB_call (W := z.w) (by assumption) hw1).1.size; obtain ⟨hc1, hf1⟩ := bcell hw1; have hz3 := bsize hw1))
            · have hk : KeptB z.w (w1.alloc (.cells #[.int .i64 dn, .int .i64 dd] 43)) := by assumption
              have m0 : (w1.alloc (.cells #[.int .i64 dn, .int .i64 dd] 43)).cell? ⟨w1.heap.size, 0, none⟩ = some (.int .i64 dn) := by simp [go_sem]
              have m1 : (w1.alloc (.cells #[.int .i64 dn, .int .i64 dd] 43)).cell? ⟨w1.heap.size, 1, none⟩ = some (.int .i64 dd) := by simp [go_sem]
              have hM : w1.heap.size < (w1.alloc (.cells #[.int .i64 dn, .int .i64 dd] 43)).heap.size := by simp
              obtain ⟨y, hy⟩ : ∃ y : After z.w, w1.alloc (.cells #[.int .i64 dn, .int .i64 dd] 43) = y.w := ⟨⟨_, hk.1⟩, rfl⟩
              rw [hy] at m0 m1 hM ⊢
              clear hy
              have yS := y.size_lt zS

              cases az
              · (go_wp2_with fail); refine calls_after (HCk.out _) ?_; intro u; have hz_u := u.out.size; (try simp only [World.size_alloc] at hz_u); (try simp only [World.size_setCell] at hz_u); have k0_u : S < u.w.heap.size := (by omega); have j0_u : S < u.w.heap.size + 1 := (by omega); have k1_u : w1.heap.size < u.w.heap.size := (by omega); have j1_u : w1.heap.size < u.w.heap.size + 1 := (by omega)
                go_wp2
                go_roundw
                case rel => exact ⟨k + 1, by omega, by go_num, by rw [HS1.out]; rfl, ⟨_, z.out.trans ((y.out.trans (u.out.mono y.out.size)).mono z.out.size)⟩, rfl⟩
                case measure => simp [intOf]; omega
              · (go_wp2_with fail); refine calls_after (HCk.out _) ?_; intro u; have hz_u := u.out.size; (try simp only [World.size_alloc] at hz_u); (try simp only [World.size_setCell] at hz_u); have k0_u : S < u.w.heap.size := (by omega); have j0_u : S < u.w.heap.size + 1 := (by omega); have k1_u : w1.heap.size < u.w.heap.size := (by omega); have j1_u : w1.heap.size < u.w.heap.size + 1 := (by omega)
                go_wp2
                go_roundw
                case rel => exact ⟨k + 1, by omega, by go_num, by rw [HS1.out]; rfl, ⟨_, z.out.trans ((y.out.trans (u.out.mono y.out.size)).mono z.out.size)⟩, rfl⟩
                case measure => simp [intOf]; omega
            · have hk : KeptB z.w ((w1.setCell ⟨z.w.heap.size, 0, none⟩ (.int .i64 dn)).setCell ⟨z.w.heap.size, 1, none⟩ (.int .i64 dd)) := by assumption
              have hM : z.w.heap.size < w1.heap.size := hz3 _ (by simp)
              have n0 : w1.cell? ⟨z.w.heap.size, 0, none⟩ = some (.int .i64 0) := by rw [hc1 _ _ (by simp)]; simp [go_sem]
              have n1 : w1.cell? ⟨z.w.heap.size, 1, none⟩ = some (.int .i64 0) := by rw [hc1 _ _ (by simp)]; simp [go_sem]
              have m0 : ((w1.setCell ⟨z.w.heap.size, 0, none⟩ (.int .i64 dn)).setCell ⟨z.w.heap.size, 1, none⟩ (.int .i64 dd)).cell? ⟨z.w.heap.size, 0, none⟩ = some (.int .i64 dn) := by
                rw [World.cell?_setCell_other _ _ _ _ (by simp)]; exact World.cell?_setCell_same _ _ _ n0
              have m1 : ((w1.setCell ⟨z.w.heap.size, 0, none⟩ (.int .i64 dn)).setCell ⟨z.w.heap.size, 1, none⟩ (.int .i64 dd)).cell? ⟨z.w.heap.size, 1, none⟩ = some (.int .i64 dd) :=
                World.cell?_setCell_same _ _ _ ((World.cell?_setCell_other _ _ _ _ (by simp)).trans n1)
              have hM : z.w.heap.size < ((w1.setCell ⟨z.w.heap.size, 0, none⟩ (.int .i64 dn)).setCell ⟨z.w.heap.size, 1, none⟩ (.int .i64 dd)).heap.size := by simpa using hM
              obtain ⟨y, hy⟩ : ∃ y : After z.w, (w1.setCell ⟨z.w.heap.size, 0, none⟩ (.int .i64 dn)).setCell ⟨z.w.heap.size, 1, none⟩ (.int .i64 dd) = y.w := ⟨⟨_, hk.1⟩, rfl⟩
              rw [hy] at m0 m1 hM ⊢
              clear hy n0 n1 hc1 hf1 hz3
              have yS := y.size_lt zS

              cases az
              · (go_wp2_with fail); refine calls_after (HCk.out _) ?_; intro u; have hz_u := u.out.size; (try simp only [World.size_alloc] at hz_u); (try simp only [World.size_setCell] at hz_u); have k0_u : S < u.w.heap.size := (by omega); have j0_u : S < u.w.heap.size + 1 := (by omega); have k1_u : z.w.heap.size < u.w.heap.size := (by omega); have j1_u : z.w.heap.size < u.w.heap.size + 1 := (by omega)
                go_wp2
                go_roundw
                case rel => exact ⟨k + 1, by omega, by go_num, by rw [HS1.out]; rfl, ⟨_, z.out.trans ((y.out.trans (u.out.mono y.out.size)).mono z.out.size)⟩, rfl⟩
                case measure => simp [intOf]; omega
              · (go_wp2_with fail); refine calls_after (HCk.out _) ?_; intro u; have hz_u := u.out.size; (try simp only [World.size_alloc] at hz_u); (try simp only [World.size_setCell] at hz_u); have k0_u : S < u.w.heap.size := (by omega); have j0_u : S < u.w.heap.size + 1 := (by omega); have k1_u : z.w.heap.size < u.w.heap.size := (by omega); have j1_u : z.w.heap.size < u.w.heap.size + 1 := (by omega)
                go_wp2
                go_roundw
                case rel => exact ⟨k + 1, by omega, by go_num, by rw [HS1.out]; rfl, ⟨_, z.out.trans ((y.out.trans (u.out.mono y.out.size)).mono z.out.size)⟩, rfl⟩
                case measure => simp [intOf]; omega
          · obtain rfl : k = ps.length := by omega
            have HE : Hid (allZ dN ps.length = (bN == 0)) := by
              show _ = _
              rw [Bool.eq_iff_iff, allZ_iff, beq_iff_eq]
              exact HF.out
            have zS := z.size_lt kS2
            generalize allZ dN ps.length = az at *
            clear HD HCd HF
            by_cases hz0 : bN = 0
            · have hE := HE.out
              rw [hz0] at hE s0
              obtain rfl : az = true := by simpa using hE
              clear hE HE
              (go_wp2_with fail); refine calls_after2 (awake_any _) ?_; intro y
              go_wp2
              go_ret
              exact ⟨rfl, by (repeat' (first | (with_reducible exact Below.refl _ _) | (with_reducible assumption) | (with_reducible refine Below.alloc ?_ ?_ _) | (with_reducible refine Below.drew ?_) | (with_reducible refine below_drewN ?_ _) | (with_reducible refine Below.setCell ?_ ?_ _) | (with_reducible refine below_after ?_ ?_ _) | (with_reducible refine below_set ?_) | (with_reducible refine After.size_le _ ?_) | (with_reducible refine size_alloc_le ?_) | (with_reducible refine size_set_le ?_) | (with_reducible refine size_drewN_le ?_) | go_size))⟩
            · have hE := HE.out
              have hn0 : (bN == 0) = false := beq_eq_false_iff_ne.2 hz0
              obtain rfl : az = false := by rw [hE, hn0]
              clear hE HE hz0
              (go_wp2_with fail); refine calls_after2 (awake_any _) ?_; intro y
              go_wp2
              go_ret
              exact ⟨rfl, by (repeat' (first | (with_reducible exact Below.refl _ _) | (with_reducible assumption) | (with_reducible refine Below.alloc ?_ ?_ _) | (with_reducible refine Below.drew ?_) | (with_reducible refine below_drewN ?_ _) | (with_reducible refine Below.setCell ?_ ?_ _) | (with_reducible refine below_after ?_ ?_ _) | (with_reducible refine below_set ?_) | (with_reducible refine After.size_le _ ?_) | (with_reducible refine size_alloc_le ?_) | (with_reducible refine size_set_le ?_) | (with_reducible refine size_drewN_le ?_) | go_size))⟩

theorem leanFewer_good (b off cap : Nat) (o : Int) (ps : List (Int × Int)) (w : World) (hb : b < w.heap.size)
    (hc : ∀ i, i < ps.length → w.cell? ⟨b, off + i * 2, none⟩ = some (.int .i64 (ps.getD i (0, 0)).1) ∧ w.cell? ⟨b, off + i * 2 + 1, none⟩ = some (.int .i64 (ps.getD i (0, 0)).2)) (hG : GoodPts ps) :
    Calls Try.prog 10 #[.slice (some ⟨b, off, none⟩) ps.length cap, .int .i64 o] w fun e w' => e = .returned (.bool true) ∧ Below w.heap.size w w' := by
  have hD : ∀ {qs : List (Int × Int)}, GoodPts qs → 1 ≤ (neL qs).2.2 ∧ (neL qs).2.2 ≤ 1000000000000000000 := fun h => inBd_d (neL_good h).1
  have r64 : ∀ {qs : List (Int × Int)} {f : Int}, GoodPts qs → 0 ≤ f → f ≤ 400000000000000000 → In64 (ratN f (neL qs).2.2) ∧ In64 (ratD f (neL qs).2.2) := fun h h0 h1 =>
    rat_64 (hD h).1 (by unfold In64; omega) (by have := hD h; unfold In64; omega)
  have w64 : ∀ {qs : List (Int × Int)}, GoodPts qs → In64 (ratN (woF (neL qs) qs) (neL qs).2.2) ∧ In64 (ratD (woF (neL qs) qs) (neL qs).2.2) := fun h => by
    have := wo_64 (x := neL _) (neL_good h).1 h
    exact r64 h this.1 this.2
  have f64 : ∀ i, i < ps.length → 0 ≤ farV (neL ps) (ptAt ps i) ∧ farV (neL ps) (ptAt ps i) ≤ 400000000000000000 := fun i hi => by
    have := offV_bd (neL_good hG).1 (goodPts_at hG i hi)
    unfold farV ptAt
    omega
  refine leanFewer_walk b off cap o ps w (fun qs => ratN (woF (neL qs) qs) (neL qs).2.2) (fun qs => ratD (woF (neL qs) qs) (neL qs).2.2) (fun i => ratN (farV (neL ps) (ptAt ps i)) (neL ps).2.2) (fun i => ratD (farV (neL ps) (ptAt ps i)) (neL ps).2.2)
    (ratN (woF (neL ps) ps) (neL ps).2.2) (ratD (woF (neL ps) ps) (neL ps).2.2) (neA ps) (neB ps) (neD ps) hb hG.2.1 ?_ ?_ ?_ ?_ ?_ ?_ ?_ ?_
  · exact Lib.hid fun W hW => cells_on hb hc hW
  · exact Lib.hid fun W hW => bend_ok b off cap ps W (Nat.lt_of_lt_of_le hb hW.size) (cells_on hb hc hW) hG
  · exact Lib.hid fun qs g c W hs h1 hg hcc => bend_ok g 0 c qs W hg hcc (good_sub hG hs h1)
  · exact Lib.hid fun qs hs h1 => ⟨_, fewer_cmp hG hs h1, fun W => rcompare_any _ _ _ _ W (w64 (good_sub hG hs h1)).1 (w64 (good_sub hG hs h1)).2 (w64 hG).1 (w64 hG).2⟩
  · refine Lib.hid fun W hW => ?_
    have := nearest_any b off cap ps W (Nat.lt_of_lt_of_le hb hW.size) (by have := hG.2.1; omega) (cells_on hb hc hW)
    rw [(ne_mk hG).2.2.2] at this
    exact this
  · refine Lib.hid fun i hi W => ?_
    have := distance_any (neA ps) (neB ps) (neD ps) (ps.getD i (0, 0)).1 (ps.getD i (0, 0)).2 W
    have hg : GoodLine (neA ps) (neB ps) (neD ps) ∧ InPt (ps.getD i (0, 0)).1 (ps.getD i (0, 0)).2 := ⟨neL_good hG, goodPts_at hG i hi⟩
    unfold disN disD disE at this
    rw [if_pos hg, if_pos hg, if_pos hg] at this
    exact this
  · exact Lib.hid fun i hi => ⟨_, far_cmp hG hi, fun W => rcompare_any _ _ _ _ W (r64 hG (f64 i hi).1 (f64 i hi).2).1 (r64 hG (f64 i hi).1 (f64 i hi).2).2 (w64 hG).1 (w64 hG).2⟩
  · exact Lib.hid (far_all hG)

theorem leanFewer_any (v : Value) (o : Int) (ps : List (Int × Int)) (w : World) (h : Pts w w.heap.size v ps) :
    Calls Try.prog 10 #[v, .int .i64 o] w fun e w' => e = .returned (.bool true) ∧ Below w.heap.size w w' := by
  by_cases hl : ps.length ≤ 40
  · by_cases hG : GoodPts ps
    · obtain ⟨bl, off, cap, rfl, hb, hc⟩ := pts_good h hG
      exact leanFewer_good bl off cap o ps w hb hc hG
    · have hs := say_pts h (by omega)
      obtain ⟨ad, cap, rfl⟩ := pts_slice h
      rw [decide_eq_false hG] at hs
      exact leanFewer_bad ad _ cap o w hl hs
  · obtain ⟨ad, cap, rfl⟩ := pts_slice h
    exact leanFewer_long ad ps.length cap o w (by omega)
end Go.Proofs.Ytdhobjflfhijjaa
