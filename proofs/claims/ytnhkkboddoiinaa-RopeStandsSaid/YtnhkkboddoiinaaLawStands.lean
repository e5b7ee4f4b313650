/- RopeStands: the law's walk. -/
import Derived.Test.YtnhkkboddoiinaaTestr
import Derived.Test.YtnhkkboddoiinaaGainm
import Derived.Test.YtnhkkboddoiinaaSharesb
import Derived.Test.YtnhkkboddoiinaaPwalk
namespace Go.Proofs.Ytnhkkboddoiinaa
open Go.RowKit
attribute [local go_sem] After.cell After.frozen After.lt After.le After.ne After.ne' After.set_eq After.size_set After.lt_add

set_option maxRecDepth 100000 in
set_option maxHeartbeats 1000000 in
theorem ropeStands_long (s : Int) (a : Option Addr) (k cap : Nat) (n lim at' : Int) (w : World) (h : 19 < k) :
    Calls Try.prog 8 #[.agg #[.int .i64 s, .slice a k cap], .agg #[.int .i64 n, .int .i64 lim, .int .i64 at']] w fun e w' => e = .returned (.bool true) ∧ Below w.heap.size w w' := by
  have d1 : decide ((19 : Int) < (k : Int)) = true := decide_eq_true (by omega)
  go_enter Try.func8, Try.ntmps8
  go_wp2_with fail
  refine calls_after (awake_any _) ?_
  intro x1
  go_wp2
  go_ret
  exact ⟨rfl, by (repeat' (first | (with_reducible exact Below.refl _ _) | (with_reducible assumption) | (with_reducible refine Below.alloc ?_ ?_ _) | (with_reducible refine Below.drew ?_) | (with_reducible refine below_drewN ?_ _) | (with_reducible refine Below.setCell ?_ ?_ _) | (with_reducible refine below_after ?_ ?_ _) | (with_reducible refine below_set ?_) | (with_reducible refine After.size_le _ ?_) | (with_reducible refine size_alloc_le ?_) | (with_reducible refine size_set_le ?_) | (with_reducible refine size_drewN_le ?_) | go_size))⟩

/-- Where a man stands so that neither rope bears too much. -/
theorem stand_iff {s n lim at' : Int} {ps : List (Int × Int)} (hG : GoodL s (ps ++ [(at', n)])) (hm : Ld lim) :
    ∃ aN aD bN bD c1 c2 : Int, s1N s (ps ++ [(at', n)]) = aN ∧ s1D s (ps ++ [(at', n)]) = aD ∧ s2N s (ps ++ [(at', n)]) = bN ∧ s2D s (ps ++ [(at', n)]) = bD ∧
      (∀ W, Calls Try.prog 28 #[.agg #[.int .i64 aN, .int .i64 aD], .agg #[.int .i64 lim, .int .i64 1]] W fun e w' => e = .returned (.int .i64 c1) ∧ Below W.heap.size W w') ∧
      (∀ W, Calls Try.prog 28 #[.agg #[.int .i64 bN, .int .i64 bD], .agg #[.int .i64 lim, .int .i64 1]] W fun e w' => e = .returned (.int .i64 c2) ∧ Below W.heap.size W w') ∧
      (decide (c1 ≤ 0) = decide (wkA s lim n ps ≤ at')) ∧ (decide (c2 ≤ 0) = decide (at' ≤ wkB s lim n ps)) := by
  obtain ⟨s1, s2⟩ := hG.1
  obtain ⟨l1, l2⟩ := hm
  have hat : Btw at' 0 s ∧ Ld n := by
    have := goodL_all hG (at', n) (by simp)
    exact this
  obtain ⟨⟨a1, a2⟩, n1, n2⟩ := hat
  obtain ⟨c1, c2, c3, c4, _, _⟩ := all_bd hG
  have i3 := rat_64 (n := fS s (ps ++ [(at', n)])) s1 (by unfold In64; omega) (by unfold In64; omega)
  have i4 := rat_64 (n := sS (ps ++ [(at', n)])) s1 (by unfold In64; omega) (by unfold In64; omega)
  have i5 : In64 lim := by unfold In64; omega
  have i6 : In64 1 := by unfold In64; omega
  refine ⟨_, _, _, _, cmpR (ratN (fS s (ps ++ [(at', n)])) s) (ratD (fS s (ps ++ [(at', n)])) s) lim 1, cmpR (ratN (sS (ps ++ [(at', n)])) s) (ratD (sS (ps ++ [(at', n)])) s) lim 1, by unfold s1N; rw [if_pos hG], by unfold s1D; rw [if_pos hG], by unfold s2N; rw [if_pos hG], by unfold s2D; rw [if_pos hG], fun W => rcompare_any _ _ _ _ W i3.1 i3.2 i5 i6, fun W => rcompare_any _ _ _ _ W i4.1 i4.2 i5 i6, ?_, ?_⟩
  · rw [cmp_int s1, fS_snoc]
    have h := wLo_iff (a := fS s ps) (L := lim * s) n1 a1 a2
    apply decide_eq_decide.2
    unfold wkA
    rw [← h]
    unfold cmp3
    dsimp only
    split
    · exact ⟨fun _ => by omega, fun _ => by omega⟩
    · split
      · exact ⟨fun h => by omega, fun h => by omega⟩
      · exact ⟨fun _ => by omega, fun _ => by omega⟩
  · rw [cmp_int s1, sS_snoc]
    have h := wHi_iff (b := sS ps) (L := lim * s) n1 a1 a2
    apply decide_eq_decide.2
    unfold wkB
    rw [← h]
    unfold cmp3
    dsimp only
    split
    · exact ⟨fun _ => by omega, fun _ => by omega⟩
    · split
      · exact ⟨fun h => by omega, fun h => by omega⟩
      · exact ⟨fun _ => by omega, fun _ => by omega⟩


set_option maxRecDepth 100000 in
set_option maxHeartbeats 4000000 in
theorem ropeStands_any (s : Int) (v : Value) (ps : List (Int × Int)) (n lim at' : Int) (w : World) (h : Prc w w.heap.size v ps) (hl : ps.length ≤ 19) :
    Calls Try.prog 8 #[.agg #[.int .i64 s, v], .agg #[.int .i64 n, .int .i64 lim, .int .i64 at']] w fun e w' => e = .returned (.bool true) ∧ Below w.heap.size w w' := by
  obtain ⟨a, cap, hv⟩ := prc_slice h
  have d1 : decide ((19 : Int) < (ps.length : Int)) = false := decide_eq_false (by omega)
  have H1 : Hid (∀ W, Below w.heap.size w W → _) := fun W hW => walk_any s n lim v ps W (prc_on h hW)
  by_cases hE : (waE s lim n ps = 0 ∨ waE s lim n ps = 8)
  · have hm : Ld lim := by
      by_cases hG : GoodL s ps
      · by_cases hn : Ld n ∧ Ld lim
        · exact hn.2
        · have := (wa_range hG hn).1; omega
      · have := (wa_bad (s := s) (lim := lim) (n := n) hG).1; omega
    have hE2 : (waE s lim n ps = 0 ∧ waL s lim n ps = wkA s lim n ps ∧ waH s lim n ps = wkB s lim n ps) ∨ (waE s lim n ps = 8 ∧ waL s lim n ps = 0 ∧ waH s lim n ps = 0 ∧ ¬ wkA s lim n ps ≤ wkB s lim n ps) := by
      by_cases hG : GoodL s ps
      · by_cases hn : Ld n ∧ Ld lim
        · by_cases hx : wkA s lim n ps ≤ wkB s lim n ps
          · exact .inl (wa_ok hG hn hx)
          · exact .inr ⟨(wa_none hG hn hx).1, (wa_none hG hn hx).2.1, (wa_none hG hn hx).2.2, hx⟩
        · have := (wa_range hG hn).1; omega
      · have := (wa_bad (s := s) (lim := lim) (n := n) hG).1; omega
    have HP := Lib.hid h
    have H3 : Hid (∀ (B : Nat) (v2 : Value) (W : World), W.ownsRow B 52 2 v2 (ps ++ [(at', n)]).length (pcv (ps ++ [(at', n)])) → Calls Try.prog 29 #[.int .i64 s, v2] W fun e w' => e = .returned (.tuple #[.agg #[.int .i64 (s1N s (ps ++ [(at', n)])), .int .i64 (s1D s (ps ++ [(at', n)]))], .agg #[.int .i64 (s2N s (ps ++ [(at', n)])), .int .i64 (s2D s (ps ++ [(at', n)]))], .int .i64 (shE s (ps ++ [(at', n)]))]) ∧ Below W.heap.size W w') := fun B v2 W ho =>
      sharesR_any s v2 _ W (prc_prs (prc_own ho (by simp)))
    obtain ⟨i0, hi, hz0, hz1, hz2⟩ := info_parts loadInfo
    have HST : Hid (GoodL s (ps ++ [(at', n)]) → _) := fun hG => stand_iff hG hm
    clear h hE
    subst hv
    by_cases hG2 : GoodL s (ps ++ [(at', n)])
    · obtain ⟨aN, aD, bN, bD, c1, c2, e1, e2, e3, e4, hc1, hc2, f1, f2⟩ := HST.out hG2
      have HC1 := Lib.hid hc1
      have HC2 := Lib.hid hc2
      rw [e1, e2, e3, e4, show shE s (ps ++ [(at', n)]) = 0 by unfold shE; rw [if_pos hG2]] at H3
      clear e1 e2 e3 e4 hG2 HST hc1 hc2
      rcases hE2 with ⟨e0, eL, eH⟩ | ⟨e0, eL, eH, hx⟩
      · rw [e0, eL, eH] at H1
        clear e0 eL eH
        generalize wkA s lim n ps = A at *
        generalize wkB s lim n ps = B at *
        cases hb1 : decide (c1 ≤ 0)
        · rw [hb1] at f1
          replace f1 := f1.symm
          clear f2
          go_enter Try.func8, Try.ntmps8
          go_wp2_with fail
          go_region
          go_wp2_with fail
          refine calls_after (H1.out _ (by (repeat' (first | (with_reducible exact Below.refl _ _) | (with_reducible assumption) | (with_reducible refine Below.alloc ?_ ?_ _) | (with_reducible refine Below.drew ?_) | (with_reducible refine below_drewN ?_ _) | (with_reducible refine Below.setCell ?_ ?_ _) | (with_reducible refine below_after ?_ ?_ _) | (with_reducible refine below_set ?_) | (with_reducible refine After.size_le _ ?_) | (with_reducible refine size_alloc_le ?_) | (with_reducible refine size_set_le ?_) | (with_reducible refine size_drewN_le ?_) | go_size)))) ?_
          intro x1
          clear H1
          have z1 := x1.out.size
          rw [show ∀ w : World, w.drew.heap.size = w.heap.size from fun _ => rfl, World.size_alloc, World.size_alloc] at z1
          have k1 : w.heap.size < x1.w.heap.size := by omega
          have k2 : w.heap.size + 1 < x1.w.heap.size := by omega
          have HB3 : Hid (Below w.heap.size w x1.w) := Lib.hid (by (repeat' (first | (with_reducible exact Below.refl _ _) | (with_reducible assumption) | (with_reducible refine Below.alloc ?_ ?_ _) | (with_reducible refine Below.drew ?_) | (with_reducible refine below_drewN ?_ _) | (with_reducible refine Below.setCell ?_ ?_ _) | (with_reducible refine below_after ?_ ?_ _) | (with_reducible refine below_set ?_) | (with_reducible refine After.size_le _ ?_) | (with_reducible refine size_alloc_le ?_) | (with_reducible refine size_set_le ?_) | (with_reducible refine size_drewN_le ?_) | go_size)))
          have HPx : Hid (Prc (x1.w.alloc (.cells #[] 52)) (x1.w.alloc (.cells #[] 52)).heap.size _ ps) := prc_on HP.out (HB3.out.alloc HB3.out.size _)
          go_wp2_with (first
            | (at_builtin; refine append_prc rfl _ _ 40 rfl x1.w.heap.size 52 i0 (.agg #[.int .i64 0, .int .i64 0]) Try.underlying40 hi hz0 hz1 hz2 rfl _ rfl (World.ownsRow_lit x1.w #[] 0 (Nat.le_refl _) (by unfold maxLen; omega) rfl) _ rfl ps HPx.out (by omega) (by simp) ?_; intro v1 w1 hown1 hgrow1; have HB1 := Lib.hid (((Below.refl x1.w.heap.size x1.w).alloc (Nat.le_refl _) (.cells #[] 52)).grown hgrow1 (by simp) (fun j e => by cases e; exact Nat.le_refl _)); have HO1 := Lib.hid hown1; clear hown1 hgrow1)
            | (at_builtin; refine wpList_append_own _ rfl _ _ 40 rfl x1.w.heap.size 52 i0 (.agg #[.int .i64 0, .int .i64 0]) 2 16 Try.underlying40 hi hz0 hz1 hz2 rfl (by decide) _ ps.length (pcv ps) rfl (HO1.out.alloc _) ⟨w1.heap.size, 0, none⟩ 1 1 [.int .i64 at', .int .i64 n] rfl rfl (World.news_of_block (cs := #[.int .i64 at', .int .i64 n]) (t := 52) (fr := (0, 0)) (heap_alloc_new w1 _)) (by simp [Value.oneCell']) (by unfold maxLen; omega) (by omega) (by simp; have := HB1.out.size; omega) ?_; intro v2 w2 hown2 hgrow2 _; have hR : w2.ownsRow x1.w.heap.size 52 2 v2 (ps ++ [(at', n)]).length (pcv (ps ++ [(at', n)])) := (by rw [pcv_snoc]; simpa using hown2); obtain ⟨y, rfl⟩ := after_ofP (x1.out.trans (((HB1.out.alloc HB1.out.size _).grown hgrow2 (by simp; have := HB1.out.size; omega) (fun j e => (HO1.out.lt j e).1)).mono x1.out.size)); have HR2 := Lib.hid hR; clear hown2 hgrow2 HB1 HO1 hR; have z2 := y.out.size; rw [show ∀ w : World, w.drew.heap.size = w.heap.size from fun _ => rfl, World.size_alloc, World.size_alloc] at z2; have k3 : w.heap.size < y.w.heap.size := (by omega); have k4 : w.heap.size + 1 < y.w.heap.size := (by omega)))
          refine calls_after2 (H3.out _ _ _ HR2.out) ?_
          intro x4
          have z4 := x4.out.size
          rw [show ∀ w : World, w.drew.heap.size = w.heap.size from fun _ => rfl, World.size_alloc, World.size_alloc] at z4
          have k5 : w.heap.size < x4.w.heap.size := by omega
          have k6 : w.heap.size + 1 < x4.w.heap.size := by omega
          go_wp2_with fail
          refine calls_after (HC1.out _) ?_
          intro x5
          have hz_x5 := x5.out.size; (try simp only [World.size_alloc] at hz_x5); (try simp only [World.size_setCell] at hz_x5); (try simp only [World.size_alloc] at hz_x5); have k0_x5 : x4.w.heap.size < x5.w.heap.size := (by omega); have j0_x5 : x4.w.heap.size < x5.w.heap.size + 1 := (by omega); have k1_x5 : x4.w.heap.size + 1 < x5.w.heap.size := (by omega); have j1_x5 : x4.w.heap.size + 1 < x5.w.heap.size + 1 := (by omega); have k2_x5 : x4.w.heap.size + 2 < x5.w.heap.size := (by omega); have j2_x5 : x4.w.heap.size + 2 < x5.w.heap.size + 1 := (by omega)
          go_wp2_with fail
          first | (refine calls_after2 (awake_any _) ?_) | (refine calls_after (awake_any _) ?_)
          intro x7
          go_wp2
          go_ret
          exact ⟨rfl, by (repeat' (first | (with_reducible exact Below.refl _ _) | (with_reducible assumption) | (with_reducible refine Below.alloc ?_ ?_ _) | (with_reducible refine Below.drew ?_) | (with_reducible refine below_drewN ?_ _) | (with_reducible refine Below.setCell ?_ ?_ _) | (with_reducible refine below_after ?_ ?_ _) | (with_reducible refine below_set ?_) | (with_reducible refine After.size_le _ ?_) | (with_reducible refine size_alloc_le ?_) | (with_reducible refine size_set_le ?_) | (with_reducible refine size_drewN_le ?_) | go_size))⟩
        · rw [hb1] at f1
          replace f1 := f1.symm
          cases hb2 : decide (c2 ≤ 0)
          · rw [hb2] at f2
            replace f2 := f2.symm
            go_enter Try.func8, Try.ntmps8
            go_wp2_with fail
            go_region
            go_wp2_with fail
            refine calls_after (H1.out _ (by (repeat' (first | (with_reducible exact Below.refl _ _) | (with_reducible assumption) | (with_reducible refine Below.alloc ?_ ?_ _) | (with_reducible refine Below.drew ?_) | (with_reducible refine below_drewN ?_ _) | (with_reducible refine Below.setCell ?_ ?_ _) | (with_reducible refine below_after ?_ ?_ _) | (with_reducible refine below_set ?_) | (with_reducible refine After.size_le _ ?_) | (with_reducible refine size_alloc_le ?_) | (with_reducible refine size_set_le ?_) | (with_reducible refine size_drewN_le ?_) | go_size)))) ?_
            intro x1
            clear H1
            have z1 := x1.out.size
            rw [show ∀ w : World, w.drew.heap.size = w.heap.size from fun _ => rfl, World.size_alloc, World.size_alloc] at z1
            have k1 : w.heap.size < x1.w.heap.size := by omega
            have k2 : w.heap.size + 1 < x1.w.heap.size := by omega
            have HB3 : Hid (Below w.heap.size w x1.w) := Lib.hid (by (repeat' (first | (with_reducible exact Below.refl _ _) | (with_reducible assumption) | (with_reducible refine Below.alloc ?_ ?_ _) | (with_reducible refine Below.drew ?_) | (with_reducible refine below_drewN ?_ _) | (with_reducible refine Below.setCell ?_ ?_ _) | (with_reducible refine below_after ?_ ?_ _) | (with_reducible refine below_set ?_) | (with_reducible refine After.size_le _ ?_) | (with_reducible refine size_alloc_le ?_) | (with_reducible refine size_set_le ?_) | (with_reducible refine size_drewN_le ?_) | go_size)))
            have HPx : Hid (Prc (x1.w.alloc (.cells #[] 52)) (x1.w.alloc (.cells #[] 52)).heap.size _ ps) := prc_on HP.out (HB3.out.alloc HB3.out.size _)
            go_wp2_with (first
              | (at_builtin; refine append_prc rfl _ _ 40 rfl x1.w.heap.size 52 i0 (.agg #[.int .i64 0, .int .i64 0]) Try.underlying40 hi hz0 hz1 hz2 rfl _ rfl (World.ownsRow_lit x1.w #[] 0 (Nat.le_refl _) (by unfold maxLen; omega) rfl) _ rfl ps HPx.out (by omega) (by simp) ?_; intro v1 w1 hown1 hgrow1; have HB1 := Lib.hid (((Below.refl x1.w.heap.size x1.w).alloc (Nat.le_refl _) (.cells #[] 52)).grown hgrow1 (by simp) (fun j e => by cases e; exact Nat.le_refl _)); have HO1 := Lib.hid hown1; clear hown1 hgrow1)
              | (at_builtin; refine wpList_append_own _ rfl _ _ 40 rfl x1.w.heap.size 52 i0 (.agg #[.int .i64 0, .int .i64 0]) 2 16 Try.underlying40 hi hz0 hz1 hz2 rfl (by decide) _ ps.length (pcv ps) rfl (HO1.out.alloc _) ⟨w1.heap.size, 0, none⟩ 1 1 [.int .i64 at', .int .i64 n] rfl rfl (World.news_of_block (cs := #[.int .i64 at', .int .i64 n]) (t := 52) (fr := (0, 0)) (heap_alloc_new w1 _)) (by simp [Value.oneCell']) (by unfold maxLen; omega) (by omega) (by simp; have := HB1.out.size; omega) ?_; intro v2 w2 hown2 hgrow2 _; have hR : w2.ownsRow x1.w.heap.size 52 2 v2 (ps ++ [(at', n)]).length (pcv (ps ++ [(at', n)])) := (by rw [pcv_snoc]; simpa using hown2); obtain ⟨y, rfl⟩ := after_ofP (x1.out.trans (((HB1.out.alloc HB1.out.size _).grown hgrow2 (by simp; have := HB1.out.size; omega) (fun j e => (HO1.out.lt j e).1)).mono x1.out.size)); have HR2 := Lib.hid hR; clear hown2 hgrow2 HB1 HO1 hR; have z2 := y.out.size; rw [show ∀ w : World, w.drew.heap.size = w.heap.size from fun _ => rfl, World.size_alloc, World.size_alloc] at z2; have k3 : w.heap.size < y.w.heap.size := (by omega); have k4 : w.heap.size + 1 < y.w.heap.size := (by omega)))
            refine calls_after2 (H3.out _ _ _ HR2.out) ?_
            intro x4
            have z4 := x4.out.size
            rw [show ∀ w : World, w.drew.heap.size = w.heap.size from fun _ => rfl, World.size_alloc, World.size_alloc] at z4
            have k5 : w.heap.size < x4.w.heap.size := by omega
            have k6 : w.heap.size + 1 < x4.w.heap.size := by omega
            go_wp2_with fail
            refine calls_after (HC1.out _) ?_
            intro x5
            have hz_x5 := x5.out.size; (try simp only [World.size_alloc] at hz_x5); (try simp only [World.size_setCell] at hz_x5); (try simp only [World.size_alloc] at hz_x5); have k0_x5 : x4.w.heap.size < x5.w.heap.size := (by omega); have j0_x5 : x4.w.heap.size < x5.w.heap.size + 1 := (by omega); have k1_x5 : x4.w.heap.size + 1 < x5.w.heap.size := (by omega); have j1_x5 : x4.w.heap.size + 1 < x5.w.heap.size + 1 := (by omega); have k2_x5 : x4.w.heap.size + 2 < x5.w.heap.size := (by omega); have j2_x5 : x4.w.heap.size + 2 < x5.w.heap.size + 1 := (by omega)
            go_wp2_with fail
            refine calls_after2 (HC2.out _) ?_
            intro x6
            go_wp2_with fail
            first | (refine calls_after2 (awake_any _) ?_) | (refine calls_after (awake_any _) ?_)
            intro x7
            go_wp2
            go_ret
            exact ⟨rfl, by (repeat' (first | (with_reducible exact Below.refl _ _) | (with_reducible assumption) | (with_reducible refine Below.alloc ?_ ?_ _) | (with_reducible refine Below.drew ?_) | (with_reducible refine below_drewN ?_ _) | (with_reducible refine Below.setCell ?_ ?_ _) | (with_reducible refine below_after ?_ ?_ _) | (with_reducible refine below_set ?_) | (with_reducible refine After.size_le _ ?_) | (with_reducible refine size_alloc_le ?_) | (with_reducible refine size_set_le ?_) | (with_reducible refine size_drewN_le ?_) | go_size))⟩
          · rw [hb2] at f2
            replace f2 := f2.symm
            go_enter Try.func8, Try.ntmps8
            go_wp2_with fail
            go_region
            go_wp2_with fail
            refine calls_after (H1.out _ (by (repeat' (first | (with_reducible exact Below.refl _ _) | (with_reducible assumption) | (with_reducible refine Below.alloc ?_ ?_ _) | (with_reducible refine Below.drew ?_) | (with_reducible refine below_drewN ?_ _) | (with_reducible refine Below.setCell ?_ ?_ _) | (with_reducible refine below_after ?_ ?_ _) | (with_reducible refine below_set ?_) | (with_reducible refine After.size_le _ ?_) | (with_reducible refine size_alloc_le ?_) | (with_reducible refine size_set_le ?_) | (with_reducible refine size_drewN_le ?_) | go_size)))) ?_
            intro x1
            clear H1
            have z1 := x1.out.size
            rw [show ∀ w : World, w.drew.heap.size = w.heap.size from fun _ => rfl, World.size_alloc, World.size_alloc] at z1
            have k1 : w.heap.size < x1.w.heap.size := by omega
            have k2 : w.heap.size + 1 < x1.w.heap.size := by omega
            have HB3 : Hid (Below w.heap.size w x1.w) := Lib.hid (by (repeat' (first | (with_reducible exact Below.refl _ _) | (with_reducible assumption) | (with_reducible refine Below.alloc ?_ ?_ _) | (with_reducible refine Below.drew ?_) | (with_reducible refine below_drewN ?_ _) | (with_reducible refine Below.setCell ?_ ?_ _) | (with_reducible refine below_after ?_ ?_ _) | (with_reducible refine below_set ?_) | (with_reducible refine After.size_le _ ?_) | (with_reducible refine size_alloc_le ?_) | (with_reducible refine size_set_le ?_) | (with_reducible refine size_drewN_le ?_) | go_size)))
            have HPx : Hid (Prc (x1.w.alloc (.cells #[] 52)) (x1.w.alloc (.cells #[] 52)).heap.size _ ps) := prc_on HP.out (HB3.out.alloc HB3.out.size _)
            go_wp2_with (first
              | (at_builtin; refine append_prc rfl _ _ 40 rfl x1.w.heap.size 52 i0 (.agg #[.int .i64 0, .int .i64 0]) Try.underlying40 hi hz0 hz1 hz2 rfl _ rfl (World.ownsRow_lit x1.w #[] 0 (Nat.le_refl _) (by unfold maxLen; omega) rfl) _ rfl ps HPx.out (by omega) (by simp) ?_; intro v1 w1 hown1 hgrow1; have HB1 := Lib.hid (((Below.refl x1.w.heap.size x1.w).alloc (Nat.le_refl _) (.cells #[] 52)).grown hgrow1 (by simp) (fun j e => by cases e; exact Nat.le_refl _)); have HO1 := Lib.hid hown1; clear hown1 hgrow1)
              | (at_builtin; refine wpList_append_own _ rfl _ _ 40 rfl x1.w.heap.size 52 i0 (.agg #[.int .i64 0, .int .i64 0]) 2 16 Try.underlying40 hi hz0 hz1 hz2 rfl (by decide) _ ps.length (pcv ps) rfl (HO1.out.alloc _) ⟨w1.heap.size, 0, none⟩ 1 1 [.int .i64 at', .int .i64 n] rfl rfl (World.news_of_block (cs := #[.int .i64 at', .int .i64 n]) (t := 52) (fr := (0, 0)) (heap_alloc_new w1 _)) (by simp [Value.oneCell']) (by unfold maxLen; omega) (by omega) (by simp; have := HB1.out.size; omega) ?_; intro v2 w2 hown2 hgrow2 _; have hR : w2.ownsRow x1.w.heap.size 52 2 v2 (ps ++ [(at', n)]).length (pcv (ps ++ [(at', n)])) := (by rw [pcv_snoc]; simpa using hown2); obtain ⟨y, rfl⟩ := after_ofP (x1.out.trans (((HB1.out.alloc HB1.out.size _).grown hgrow2 (by simp; have := HB1.out.size; omega) (fun j e => (HO1.out.lt j e).1)).mono x1.out.size)); have HR2 := Lib.hid hR; clear hown2 hgrow2 HB1 HO1 hR; have z2 := y.out.size; rw [show ∀ w : World, w.drew.heap.size = w.heap.size from fun _ => rfl, World.size_alloc, World.size_alloc] at z2; have k3 : w.heap.size < y.w.heap.size := (by omega); have k4 : w.heap.size + 1 < y.w.heap.size := (by omega)))
            refine calls_after2 (H3.out _ _ _ HR2.out) ?_
            intro x4
            have z4 := x4.out.size
            rw [show ∀ w : World, w.drew.heap.size = w.heap.size from fun _ => rfl, World.size_alloc, World.size_alloc] at z4
            have k5 : w.heap.size < x4.w.heap.size := by omega
            have k6 : w.heap.size + 1 < x4.w.heap.size := by omega
            go_wp2_with fail
            refine calls_after (HC1.out _) ?_
            intro x5
            have hz_x5 := x5.out.size; (try simp only [World.size_alloc] at hz_x5); (try simp only [World.size_setCell] at hz_x5); (try simp only [World.size_alloc] at hz_x5); have k0_x5 : x4.w.heap.size < x5.w.heap.size := (by omega); have j0_x5 : x4.w.heap.size < x5.w.heap.size + 1 := (by omega); have k1_x5 : x4.w.heap.size + 1 < x5.w.heap.size := (by omega); have j1_x5 : x4.w.heap.size + 1 < x5.w.heap.size + 1 := (by omega); have k2_x5 : x4.w.heap.size + 2 < x5.w.heap.size := (by omega); have j2_x5 : x4.w.heap.size + 2 < x5.w.heap.size + 1 := (by omega)
            go_wp2_with fail
            refine calls_after2 (HC2.out _) ?_
            intro x6
            go_wp2_with fail
            first | (refine calls_after2 (awake_any _) ?_) | (refine calls_after (awake_any _) ?_)
            intro x7
            go_wp2
            go_ret
            exact ⟨rfl, by (repeat' (first | (with_reducible exact Below.refl _ _) | (with_reducible assumption) | (with_reducible refine Below.alloc ?_ ?_ _) | (with_reducible refine Below.drew ?_) | (with_reducible refine below_drewN ?_ _) | (with_reducible refine Below.setCell ?_ ?_ _) | (with_reducible refine below_after ?_ ?_ _) | (with_reducible refine below_set ?_) | (with_reducible refine After.size_le _ ?_) | (with_reducible refine size_alloc_le ?_) | (with_reducible refine size_set_le ?_) | (with_reducible refine size_drewN_le ?_) | go_size))⟩
      · rw [e0, eL, eH] at H1
        clear e0 eL eH
        generalize wkA s lim n ps = A at *
        generalize wkB s lim n ps = B at *
        cases hb1 : decide (c1 ≤ 0)
        · clear f1 f2 hx
          go_enter Try.func8, Try.ntmps8
          go_wp2_with fail
          go_region
          go_wp2_with fail
          refine calls_after (H1.out _ (by (repeat' (first | (with_reducible exact Below.refl _ _) | (with_reducible assumption) | (with_reducible refine Below.alloc ?_ ?_ _) | (with_reducible refine Below.drew ?_) | (with_reducible refine below_drewN ?_ _) | (with_reducible refine Below.setCell ?_ ?_ _) | (with_reducible refine below_after ?_ ?_ _) | (with_reducible refine below_set ?_) | (with_reducible refine After.size_le _ ?_) | (with_reducible refine size_alloc_le ?_) | (with_reducible refine size_set_le ?_) | (with_reducible refine size_drewN_le ?_) | go_size)))) ?_
          intro x1
          clear H1
          have z1 := x1.out.size
          rw [show ∀ w : World, w.drew.heap.size = w.heap.size from fun _ => rfl, World.size_alloc, World.size_alloc] at z1
          have k1 : w.heap.size < x1.w.heap.size := by omega
          have k2 : w.heap.size + 1 < x1.w.heap.size := by omega
          have HB3 : Hid (Below w.heap.size w x1.w) := Lib.hid (by (repeat' (first | (with_reducible exact Below.refl _ _) | (with_reducible assumption) | (with_reducible refine Below.alloc ?_ ?_ _) | (with_reducible refine Below.drew ?_) | (with_reducible refine below_drewN ?_ _) | (with_reducible refine Below.setCell ?_ ?_ _) | (with_reducible refine below_after ?_ ?_ _) | (with_reducible refine below_set ?_) | (with_reducible refine After.size_le _ ?_) | (with_reducible refine size_alloc_le ?_) | (with_reducible refine size_set_le ?_) | (with_reducible refine size_drewN_le ?_) | go_size)))
          have HPx : Hid (Prc (x1.w.alloc (.cells #[] 52)) (x1.w.alloc (.cells #[] 52)).heap.size _ ps) := prc_on HP.out (HB3.out.alloc HB3.out.size _)
          go_wp2_with (first
            | (at_builtin; refine append_prc rfl _ _ 40 rfl x1.w.heap.size 52 i0 (.agg #[.int .i64 0, .int .i64 0]) Try.underlying40 hi hz0 hz1 hz2 rfl _ rfl (World.ownsRow_lit x1.w #[] 0 (Nat.le_refl _) (by unfold maxLen; omega) rfl) _ rfl ps HPx.out (by omega) (by simp) ?_; intro v1 w1 hown1 hgrow1; have HB1 := Lib.hid (((Below.refl x1.w.heap.size x1.w).alloc (Nat.le_refl _) (.cells #[] 52)).grown hgrow1 (by simp) (fun j e => by cases e; exact Nat.le_refl _)); have HO1 := Lib.hid hown1; clear hown1 hgrow1)
            | (at_builtin; refine wpList_append_own _ rfl _ _ 40 rfl x1.w.heap.size 52 i0 (.agg #[.int .i64 0, .int .i64 0]) 2 16 Try.underlying40 hi hz0 hz1 hz2 rfl (by decide) _ ps.length (pcv ps) rfl (HO1.out.alloc _) ⟨w1.heap.size, 0, none⟩ 1 1 [.int .i64 at', .int .i64 n] rfl rfl (World.news_of_block (cs := #[.int .i64 at', .int .i64 n]) (t := 52) (fr := (0, 0)) (heap_alloc_new w1 _)) (by simp [Value.oneCell']) (by unfold maxLen; omega) (by omega) (by simp; have := HB1.out.size; omega) ?_; intro v2 w2 hown2 hgrow2 _; have hR : w2.ownsRow x1.w.heap.size 52 2 v2 (ps ++ [(at', n)]).length (pcv (ps ++ [(at', n)])) := (by rw [pcv_snoc]; simpa using hown2); obtain ⟨y, rfl⟩ := after_ofP (x1.out.trans (((HB1.out.alloc HB1.out.size _).grown hgrow2 (by simp; have := HB1.out.size; omega) (fun j e => (HO1.out.lt j e).1)).mono x1.out.size)); have HR2 := Lib.hid hR; clear hown2 hgrow2 HB1 HO1 hR; have z2 := y.out.size; rw [show ∀ w : World, w.drew.heap.size = w.heap.size from fun _ => rfl, World.size_alloc, World.size_alloc] at z2; have k3 : w.heap.size < y.w.heap.size := (by omega); have k4 : w.heap.size + 1 < y.w.heap.size := (by omega)))
          refine calls_after2 (H3.out _ _ _ HR2.out) ?_
          intro x4
          have z4 := x4.out.size
          rw [show ∀ w : World, w.drew.heap.size = w.heap.size from fun _ => rfl, World.size_alloc, World.size_alloc] at z4
          have k5 : w.heap.size < x4.w.heap.size := by omega
          have k6 : w.heap.size + 1 < x4.w.heap.size := by omega
          go_wp2_with fail
          refine calls_after (HC1.out _) ?_
          intro x5
          have hz_x5 := x5.out.size; (try simp only [World.size_alloc] at hz_x5); (try simp only [World.size_setCell] at hz_x5); (try simp only [World.size_alloc] at hz_x5); have k0_x5 : x4.w.heap.size < x5.w.heap.size := (by omega); have j0_x5 : x4.w.heap.size < x5.w.heap.size + 1 := (by omega); have k1_x5 : x4.w.heap.size + 1 < x5.w.heap.size := (by omega); have j1_x5 : x4.w.heap.size + 1 < x5.w.heap.size + 1 := (by omega); have k2_x5 : x4.w.heap.size + 2 < x5.w.heap.size := (by omega); have j2_x5 : x4.w.heap.size + 2 < x5.w.heap.size + 1 := (by omega)
          go_wp2_with fail
          first | (refine calls_after2 (awake_any _) ?_) | (refine calls_after (awake_any _) ?_)
          intro x7
          go_wp2
          go_ret
          exact ⟨rfl, by (repeat' (first | (with_reducible exact Below.refl _ _) | (with_reducible assumption) | (with_reducible refine Below.alloc ?_ ?_ _) | (with_reducible refine Below.drew ?_) | (with_reducible refine below_drewN ?_ _) | (with_reducible refine Below.setCell ?_ ?_ _) | (with_reducible refine below_after ?_ ?_ _) | (with_reducible refine below_set ?_) | (with_reducible refine After.size_le _ ?_) | (with_reducible refine size_alloc_le ?_) | (with_reducible refine size_set_le ?_) | (with_reducible refine size_drewN_le ?_) | go_size))⟩
        · cases hb2 : decide (c2 ≤ 0)
          · clear f1 f2 hx
            go_enter Try.func8, Try.ntmps8
            go_wp2_with fail
            go_region
            go_wp2_with fail
            refine calls_after (H1.out _ (by (repeat' (first | (with_reducible exact Below.refl _ _) | (with_reducible assumption) | (with_reducible refine Below.alloc ?_ ?_ _) | (with_reducible refine Below.drew ?_) | (with_reducible refine below_drewN ?_ _) | (with_reducible refine Below.setCell ?_ ?_ _) | (with_reducible refine below_after ?_ ?_ _) | (with_reducible refine below_set ?_) | (with_reducible refine After.size_le _ ?_) | (with_reducible refine size_alloc_le ?_) | (with_reducible refine size_set_le ?_) | (with_reducible refine size_drewN_le ?_) | go_size)))) ?_
            intro x1
            clear H1
            have z1 := x1.out.size
            rw [show ∀ w : World, w.drew.heap.size = w.heap.size from fun _ => rfl, World.size_alloc, World.size_alloc] at z1
            have k1 : w.heap.size < x1.w.heap.size := by omega
            have k2 : w.heap.size + 1 < x1.w.heap.size := by omega
            have HB3 : Hid (Below w.heap.size w x1.w) := Lib.hid (by (repeat' (first | (with_reducible exact Below.refl _ _) | (with_reducible assumption) | (with_reducible refine Below.alloc ?_ ?_ _) | (with_reducible refine Below.drew ?_) | (with_reducible refine below_drewN ?_ _) | (with_reducible refine Below.setCell ?_ ?_ _) | (with_reducible refine below_after ?_ ?_ _) | (with_reducible refine below_set ?_) | (with_reducible refine After.size_le _ ?_) | (with_reducible refine size_alloc_le ?_) | (with_reducible refine size_set_le ?_) | (with_reducible refine size_drewN_le ?_) | go_size)))
            have HPx : Hid (Prc (x1.w.alloc (.cells #[] 52)) (x1.w.alloc (.cells #[] 52)).heap.size _ ps) := prc_on HP.out (HB3.out.alloc HB3.out.size _)
            go_wp2_with (first
              | (at_builtin; refine append_prc rfl _ _ 40 rfl x1.w.heap.size 52 i0 (.agg #[.int .i64 0, .int .i64 0]) Try.underlying40 hi hz0 hz1 hz2 rfl _ rfl (World.ownsRow_lit x1.w #[] 0 (Nat.le_refl _) (by unfold maxLen; omega) rfl) _ rfl ps HPx.out (by omega) (by simp) ?_; intro v1 w1 hown1 hgrow1; have HB1 := Lib.hid (((Below.refl x1.w.heap.size x1.w).alloc (Nat.le_refl _) (.cells #[] 52)).grown hgrow1 (by simp) (fun j e => by cases e; exact Nat.le_refl _)); have HO1 := Lib.hid hown1; clear hown1 hgrow1)
              | (at_builtin; refine wpList_append_own _ rfl _ _ 40 rfl x1.w.heap.size 52 i0 (.agg #[.int .i64 0, .int .i64 0]) 2 16 Try.underlying40 hi hz0 hz1 hz2 rfl (by decide) _ ps.length (pcv ps) rfl (HO1.out.alloc _) ⟨w1.heap.size, 0, none⟩ 1 1 [.int .i64 at', .int .i64 n] rfl rfl (World.news_of_block (cs := #[.int .i64 at', .int .i64 n]) (t := 52) (fr := (0, 0)) (heap_alloc_new w1 _)) (by simp [Value.oneCell']) (by unfold maxLen; omega) (by omega) (by simp; have := HB1.out.size; omega) ?_; intro v2 w2 hown2 hgrow2 _; have hR : w2.ownsRow x1.w.heap.size 52 2 v2 (ps ++ [(at', n)]).length (pcv (ps ++ [(at', n)])) := (by rw [pcv_snoc]; simpa using hown2); obtain ⟨y, rfl⟩ := after_ofP (x1.out.trans (((HB1.out.alloc HB1.out.size _).grown hgrow2 (by simp; have := HB1.out.size; omega) (fun j e => (HO1.out.lt j e).1)).mono x1.out.size)); have HR2 := Lib.hid hR; clear hown2 hgrow2 HB1 HO1 hR; have z2 := y.out.size; rw [show ∀ w : World, w.drew.heap.size = w.heap.size from fun _ => rfl, World.size_alloc, World.size_alloc] at z2; have k3 : w.heap.size < y.w.heap.size := (by omega); have k4 : w.heap.size + 1 < y.w.heap.size := (by omega)))
            refine calls_after2 (H3.out _ _ _ HR2.out) ?_
            intro x4
            have z4 := x4.out.size
            rw [show ∀ w : World, w.drew.heap.size = w.heap.size from fun _ => rfl, World.size_alloc, World.size_alloc] at z4
            have k5 : w.heap.size < x4.w.heap.size := by omega
            have k6 : w.heap.size + 1 < x4.w.heap.size := by omega
            go_wp2_with fail
            refine calls_after (HC1.out _) ?_
            intro x5
            have hz_x5 := x5.out.size; (try simp only [World.size_alloc] at hz_x5); (try simp only [World.size_setCell] at hz_x5); (try simp only [World.size_alloc] at hz_x5); have k0_x5 : x4.w.heap.size < x5.w.heap.size := (by omega); have j0_x5 : x4.w.heap.size < x5.w.heap.size + 1 := (by omega); have k1_x5 : x4.w.heap.size + 1 < x5.w.heap.size := (by omega); have j1_x5 : x4.w.heap.size + 1 < x5.w.heap.size + 1 := (by omega); have k2_x5 : x4.w.heap.size + 2 < x5.w.heap.size := (by omega); have j2_x5 : x4.w.heap.size + 2 < x5.w.heap.size + 1 := (by omega)
            go_wp2_with fail
            refine calls_after2 (HC2.out _) ?_
            intro x6
            go_wp2_with fail
            first | (refine calls_after2 (awake_any _) ?_) | (refine calls_after (awake_any _) ?_)
            intro x7
            go_wp2
            go_ret
            exact ⟨rfl, by (repeat' (first | (with_reducible exact Below.refl _ _) | (with_reducible assumption) | (with_reducible refine Below.alloc ?_ ?_ _) | (with_reducible refine Below.drew ?_) | (with_reducible refine below_drewN ?_ _) | (with_reducible refine Below.setCell ?_ ?_ _) | (with_reducible refine below_after ?_ ?_ _) | (with_reducible refine below_set ?_) | (with_reducible refine After.size_le _ ?_) | (with_reducible refine size_alloc_le ?_) | (with_reducible refine size_set_le ?_) | (with_reducible refine size_drewN_le ?_) | go_size))⟩
          · rw [hb1] at f1
            rw [hb2] at f2
            have g1 := of_decide_eq_true f1.symm
            have g2 := of_decide_eq_true f2.symm
            omega
    · rw [show shE s (ps ++ [(at', n)]) = 1 by unfold shE; rw [if_neg hG2]] at H3
      clear HST hG2
      generalize s1N s (ps ++ [(at', n)]) = aN at *
      generalize s1D s (ps ++ [(at', n)]) = aD at *
      generalize s2N s (ps ++ [(at', n)]) = bN at *
      generalize s2D s (ps ++ [(at', n)]) = bD at *
      rcases hE2 with ⟨e0, eL, eH⟩ | ⟨e0, eL, eH, _⟩
      all_goals
        rw [e0, eL, eH] at H1
        clear e0 eL eH
        generalize wkA s lim n ps = A at *
        generalize wkB s lim n ps = B at *
        go_enter Try.func8, Try.ntmps8
        go_wp2_with fail
        go_region
        go_wp2_with fail
        refine calls_after (H1.out _ (by (repeat' (first | (with_reducible exact Below.refl _ _) | (with_reducible assumption) | (with_reducible refine Below.alloc ?_ ?_ _) | (with_reducible refine Below.drew ?_) | (with_reducible refine below_drewN ?_ _) | (with_reducible refine Below.setCell ?_ ?_ _) | (with_reducible refine below_after ?_ ?_ _) | (with_reducible refine below_set ?_) | (with_reducible refine After.size_le _ ?_) | (with_reducible refine size_alloc_le ?_) | (with_reducible refine size_set_le ?_) | (with_reducible refine size_drewN_le ?_) | go_size)))) ?_
        intro x1
        clear H1
        have z1 := x1.out.size
        rw [show ∀ w : World, w.drew.heap.size = w.heap.size from fun _ => rfl, World.size_alloc, World.size_alloc] at z1
        have k1 : w.heap.size < x1.w.heap.size := by omega
        have k2 : w.heap.size + 1 < x1.w.heap.size := by omega
        have HB3 : Hid (Below w.heap.size w x1.w) := Lib.hid (by (repeat' (first | (with_reducible exact Below.refl _ _) | (with_reducible assumption) | (with_reducible refine Below.alloc ?_ ?_ _) | (with_reducible refine Below.drew ?_) | (with_reducible refine below_drewN ?_ _) | (with_reducible refine Below.setCell ?_ ?_ _) | (with_reducible refine below_after ?_ ?_ _) | (with_reducible refine below_set ?_) | (with_reducible refine After.size_le _ ?_) | (with_reducible refine size_alloc_le ?_) | (with_reducible refine size_set_le ?_) | (with_reducible refine size_drewN_le ?_) | go_size)))
        have HPx : Hid (Prc (x1.w.alloc (.cells #[] 52)) (x1.w.alloc (.cells #[] 52)).heap.size _ ps) := prc_on HP.out (HB3.out.alloc HB3.out.size _)
        go_wp2_with (first
          | (at_builtin; refine append_prc rfl _ _ 40 rfl x1.w.heap.size 52 i0 (.agg #[.int .i64 0, .int .i64 0]) Try.underlying40 hi hz0 hz1 hz2 rfl _ rfl (World.ownsRow_lit x1.w #[] 0 (Nat.le_refl _) (by unfold maxLen; omega) rfl) _ rfl ps HPx.out (by omega) (by simp) ?_; intro v1 w1 hown1 hgrow1; have HB1 := Lib.hid (((Below.refl x1.w.heap.size x1.w).alloc (Nat.le_refl _) (.cells #[] 52)).grown hgrow1 (by simp) (fun j e => by cases e; exact Nat.le_refl _)); have HO1 := Lib.hid hown1; clear hown1 hgrow1)
          | (at_builtin; refine wpList_append_own _ rfl _ _ 40 rfl x1.w.heap.size 52 i0 (.agg #[.int .i64 0, .int .i64 0]) 2 16 Try.underlying40 hi hz0 hz1 hz2 rfl (by decide) _ ps.length (pcv ps) rfl (HO1.out.alloc _) ⟨w1.heap.size, 0, none⟩ 1 1 [.int .i64 at', .int .i64 n] rfl rfl (World.news_of_block (cs := #[.int .i64 at', .int .i64 n]) (t := 52) (fr := (0, 0)) (heap_alloc_new w1 _)) (by simp [Value.oneCell']) (by unfold maxLen; omega) (by omega) (by simp; have := HB1.out.size; omega) ?_; intro v2 w2 hown2 hgrow2 _; have hR : w2.ownsRow x1.w.heap.size 52 2 v2 (ps ++ [(at', n)]).length (pcv (ps ++ [(at', n)])) := (by rw [pcv_snoc]; simpa using hown2); obtain ⟨y, rfl⟩ := after_ofP (x1.out.trans (((HB1.out.alloc HB1.out.size _).grown hgrow2 (by simp; have := HB1.out.size; omega) (fun j e => (HO1.out.lt j e).1)).mono x1.out.size)); have HR2 := Lib.hid hR; clear hown2 hgrow2 HB1 HO1 hR; have z2 := y.out.size; rw [show ∀ w : World, w.drew.heap.size = w.heap.size from fun _ => rfl, World.size_alloc, World.size_alloc] at z2; have k3 : w.heap.size < y.w.heap.size := (by omega); have k4 : w.heap.size + 1 < y.w.heap.size := (by omega)))
        refine calls_after2 (H3.out _ _ _ HR2.out) ?_
        intro x4
        have z4 := x4.out.size
        rw [show ∀ w : World, w.drew.heap.size = w.heap.size from fun _ => rfl, World.size_alloc, World.size_alloc] at z4
        have k5 : w.heap.size < x4.w.heap.size := by omega
        have k6 : w.heap.size + 1 < x4.w.heap.size := by omega
        go_wp2_with fail
        first | (refine calls_after2 (awake_any _) ?_) | (refine calls_after (awake_any _) ?_)
        intro x7
        go_wp2
        go_ret
        exact ⟨rfl, by (repeat' (first | (with_reducible exact Below.refl _ _) | (with_reducible assumption) | (with_reducible refine Below.alloc ?_ ?_ _) | (with_reducible refine Below.drew ?_) | (with_reducible refine below_drewN ?_ _) | (with_reducible refine Below.setCell ?_ ?_ _) | (with_reducible refine below_after ?_ ?_ _) | (with_reducible refine below_set ?_) | (with_reducible refine After.size_le _ ?_) | (with_reducible refine size_alloc_le ?_) | (with_reducible refine size_set_le ?_) | (with_reducible refine size_drewN_le ?_) | go_size))⟩
  · have h17 : waE s lim n ps = 1 ∨ waE s lim n ps = 7 := by
      by_cases hG : GoodL s ps
      · by_cases hn : Ld n ∧ Ld lim
        · by_cases hx : wkA s lim n ps ≤ wkB s lim n ps
          · exact absurd (.inl (wa_ok hG hn hx).1) hE
          · exact absurd (.inr (wa_none hG hn hx).1) hE
        · exact .inr (wa_range hG hn).1
      · exact .inl (wa_bad hG).1
    clear h hE
    subst hv
    generalize waL s lim n ps = q1 at *
    generalize waH s lim n ps = q2 at *
    rcases h17 with e | e
    all_goals
      rw [e] at H1
      clear e
      generalize ps.length = k at *
      go_enter Try.func8, Try.ntmps8
      go_wp2_with fail
      go_region
      go_wp2_with fail
      refine calls_after (H1.out _ (by (repeat' (first | (with_reducible exact Below.refl _ _) | (with_reducible assumption) | (with_reducible refine Below.alloc ?_ ?_ _) | (with_reducible refine Below.drew ?_) | (with_reducible refine below_drewN ?_ _) | (with_reducible refine Below.setCell ?_ ?_ _) | (with_reducible refine below_after ?_ ?_ _) | (with_reducible refine below_set ?_) | (with_reducible refine After.size_le _ ?_) | (with_reducible refine size_alloc_le ?_) | (with_reducible refine size_set_le ?_) | (with_reducible refine size_drewN_le ?_) | go_size)))) ?_
      intro x1
      clear H1
      have z1 := x1.out.size
      rw [show ∀ w : World, w.drew.heap.size = w.heap.size from fun _ => rfl, World.size_alloc, World.size_alloc] at z1
      have k1 : w.heap.size < x1.w.heap.size := by omega
      have k2 : w.heap.size + 1 < x1.w.heap.size := by omega
      go_wp2_with fail
      refine calls_after2 (awake_any _) ?_
      intro x2
      go_wp2
      go_ret
      exact ⟨rfl, by (repeat' (first | (with_reducible exact Below.refl _ _) | (with_reducible assumption) | (with_reducible refine Below.alloc ?_ ?_ _) | (with_reducible refine Below.drew ?_) | (with_reducible refine below_drewN ?_ _) | (with_reducible refine Below.setCell ?_ ?_ _) | (with_reducible refine below_after ?_ ?_ _) | (with_reducible refine below_set ?_) | (with_reducible refine After.size_le _ ?_) | (with_reducible refine size_alloc_le ?_) | (with_reducible refine size_set_le ?_) | (with_reducible refine size_drewN_le ?_) | go_size))⟩

theorem ropeStands_all (s : Int) (v : Value) (ps : List (Int × Int)) (n lim at' : Int) (w : World) (h : Prc w w.heap.size v ps) :
    Calls Try.prog 8 #[.agg #[.int .i64 s, v], .agg #[.int .i64 n, .int .i64 lim, .int .i64 at']] w fun e w' => e = .returned (.bool true) ∧ Below w.heap.size w w' := by
  by_cases hl : ps.length ≤ 19
  · exact ropeStands_any s v ps n lim at' w h hl
  · obtain ⟨a, cap, rfl⟩ := prc_slice h
    exact ropeStands_long s a _ cap n lim at' w (by omega)
end Go.Proofs.Ytnhkkboddoiinaa
