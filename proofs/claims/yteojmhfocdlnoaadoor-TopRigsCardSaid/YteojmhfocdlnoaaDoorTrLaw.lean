/- TopRigs: awake7; the law's walk. -/
import Derived.Test.YteojmhfocdlnoaaDoorTrMath
import Derived.Deep.DeepCutAuto
namespace Go.Proofs.YteojmhfocdlnoaaDoor.Tr
open Go.Proofs.YteojmhfocdlnoaaDoor
open Go.RowKit
attribute [local go_sem] After.cell After.frozen After.lt After.le After.ne After.ne' After.set_eq After.size_set After.lt_add tx_size tx_toList

theorem after_tr {W W' : World} (h : Below W.heap.size W W') : ∃ y : After W, W' = y.w := ⟨⟨W', h⟩, rfl⟩
def hgm : Nat → List UInt8 := fun _ => [104, 111, 111, 107]
def hgl : Nat → Int := fun _ => 7
def hgd : Nat → Int := fun _ => 0
def hgb : Nat → List UInt8 := fun _ => [97]
def hlf : Nat → Int := fun _ => -1
theorem hk_ok : (vgB 1 hgm hgl hgd hgb && vrB 1 1 hgm hgm hlf) = true := by
  rw [vgB_true, vrB_true]
  · rfl
  · refine ⟨⟨by omega, by omega⟩, fun i hi => ?_⟩
    obtain rfl : i = 0 := by omega
    exact ⟨by decide +kernel, by decide +kernel, by decide +kernel⟩
  · refine ⟨by omega, fun i hi => ?_⟩
    obtain rfl : i = 0 := by omega
    exact ⟨by decide +kernel, fun j hj => by omega⟩
theorem hk_sh : shL 1 hgm hgm hgl 1 hlf = [7] := by decide +kernel
theorem hk_mem (w : World) : ItAt ((w.alloc (.cells #[.string { data := #[104, 111, 111, 107] }, .int .i64 7, .int .i64 0, .string { data := #[97] }] 38)).alloc (.cells #[.string { data := #[104, 111, 111, 107] }, .int .i64 (-1)] 36)) (some ⟨w.heap.size, 0, none⟩) 1 hgm hgl hgd hgb ∧
    LkAt ((w.alloc (.cells #[.string { data := #[104, 111, 111, 107] }, .int .i64 7, .int .i64 0, .string { data := #[97] }] 38)).alloc (.cells #[.string { data := #[104, 111, 111, 107] }, .int .i64 (-1)] 36)) (some ⟨w.heap.size + 1, 0, none⟩) 1 hgm hlf := by
  constructor
  · intro k hk
    obtain rfl : k = 0 := by omega
    exact ⟨w.heap.size, 0, rfl, by simp; omega, by simp [go_sem]; rfl, by simp [go_sem]; rfl, by simp [go_sem]; rfl, by simp [go_sem]; rfl⟩
  · intro k hk
    obtain rfl : k = 0 := by omega
    exact ⟨w.heap.size + 1, 0, rfl, by simp, by simp [go_sem]; rfl, by simp [go_sem]; rfl⟩
set_option maxRecDepth 100000 in
set_option maxHeartbeats 1000000 in
theorem awake7_any (w : World) :
    Calls Tryd.prog 5 #[] w fun e w' => e = .returned (.bool true) ∧ Below w.heap.size w w' := by
  have HG : Hid (∀ W b c, ItAt W (some ⟨b, 0, none⟩) 1 hgm hgl hgd hgb → LkAt W (some ⟨c, 0, none⟩) 1 hgm hlf → Calls Tryd.prog 13 #[.slice (some ⟨b, 0, none⟩) 1 1, .slice (some ⟨c, 0, none⟩) 1 1] W fun e w' => e = .returned (.tuple #[.int .i64 7, .int .i64 0]) ∧ Below W.heap.size W w') := Lib.hid fun W b c h1 h2 => by
    have s4 : Sht 1 hgm := fun k _ => (by decide : [104, 111, 111, 107].length ≤ 9223372036854775807)
    have := greatest_say (some ⟨b, 0, none⟩) 1 1 hgm hgl hgd hgb (some ⟨c, 0, none⟩) 1 1 hgm hlf W h1 h2 (by omega) (by omega) (by omega) s4 (fun k _ => (by decide : [97].length ≤ 9223372036854775807)) s4
    rw [hk_ok, hk_sh] at this
    exact this
  obtain ⟨hI, hLk⟩ := hk_mem w
  have HB := Lib.hid (show Below w.heap.size w ((w.alloc (.cells #[.string { data := #[104, 111, 111, 107] }, .int .i64 7, .int .i64 0, .string { data := #[97] }] 38)).alloc (.cells #[.string { data := #[104, 111, 111, 107] }, .int .i64 (-1)] 36)) by (repeat' (first | (with_reducible exact Below.refl _ _) | (with_reducible assumption) | (with_reducible refine Below.alloc ?_ ?_ _) | (with_reducible refine Below.drew ?_) | (with_reducible refine below_drewN ?_ _) | (with_reducible refine Below.setCell ?_ ?_ _) | (with_reducible refine below_after ?_ ?_ _) | (with_reducible refine below_set ?_) | (with_reducible refine After.size_le _ ?_) | (with_reducible refine size_alloc_le ?_) | (with_reducible refine size_set_le ?_) | (with_reducible refine size_drewN_le ?_) | go_size)))
  have HI := Lib.hid hI
  have HK := Lib.hid hLk
  clear hI hLk
  go_enter Tryd.func5, Tryd.ntmps5
  go_wp2_with fail
  refine (HG.out _ _ _ HI.out HK.out).mono ?_
  rintro e w2 ⟨rfl, hb2⟩
  have HB2 := Lib.hid (HB.out.trans (hb2.mono HB.out.size))
  clear hb2 HB HI HK HG
  go_wp2
  go_ret
  exact ⟨rfl, HB2.out⟩
section
variable (a : Option Addr) (n cap : Nat) (gm : Nat → List UInt8) (gl gd : Nat → Int) (gb : Nat → List UInt8) (al : Option Addr) (m capl : Nat) (lm : Nat → List UInt8) (lf : Nat → Int) (later : Int) (w : World) (hA : ItAt w a n gm gl gd gb) (hL : LkAt w al m lm lf) (hcap : n ≤ cap) (hcapl : m ≤ capl) (h1 : Sht n gm) (h2 : Sht n gb) (h3 : Sht m lm)
include hA hL hcap hcapl h1 h2 h3
set_option maxRecDepth 100000 in
set_option maxHeartbeats 4000000 in
theorem topRigs_ok (hb : (vgB n gm gl gd gb && vrB n m gm lm lf) = true) (hn : n ≤ 64) (hm : m ≤ 32) (l1 : 1 ≤ later) (l2 : later ≤ 1000) :
    Calls Tryd.prog 3 #[.slice a n cap, .slice al m capl, .int .i64 later] w fun e w' => e = .returned (.bool true) ∧ Below w.heap.size w w' := by
  obtain ⟨i0, hi, hz0, hz1, hz2⟩ := info_parts intInfo7
  have hvg : vgB n gm gl gd gb = true := by simp at hb; exact hb.1
  have hvr : vrB n m gm lm lf = true := by simp at hb; exact hb.2
  have HV := Lib.hid (fun W (hW : Below w.heap.size w W) => rvalidRig_say a n cap gm gl gd gb al m capl lm lf W (hA.on hW) (hL.on hW) (by omega) (by omega) hcapl h1 h2 h3)
  have HSh := Lib.hid (fun W (hW : Below w.heap.size w W) => shares_say a n cap gm gl gd gb al m capl lm lf W (hA.on hW) (hL.on hW) (by omega) (by omega) hcapl h1 h2 h3)
  have HU := Lib.hid (fun W (hW : Below w.heap.size w W) => until_any a n cap gm gl gd gb al m capl lm lf W (hA.on hW) (hL.on hW) (by omega) (by omega) hcapl h1 h2 h3)
  have HMy : Hid (∀ a' cap' gd' day aq cq lo W, Below w.heap.size w W → ItAt W a' n gm gl gd' gb → vgB n gm gl gd' gb = true → GAt W aq (shL n gm lm gl m lf).length lo → Calls Tryd.prog 8 #[.slice a' n cap', .slice al m capl, .slice none 0 0, .int .i64 day, .slice aq (shL n gm lm gl m lf).length cq] W fun e w' =>
      e = .returned (.tuple #[.bool (myB (wkE true 0 (brE (shL n gm lm gl m lf).length lo (thN (enB m lf) m).length) day) (wkF n gm lm gl gd' gb m lf day 0 (fun _ => []) (shL n gm lm gl m lf).length lo) m), .int .i64 (wkE true 0 (brE (shL n gm lm gl m lf).length lo (thN (enB m lf) m).length) day)]) ∧ Below W.heap.size W w') := Lib.hid fun a' cap' gd' day aq cq lo W hW hI hg hQ => by
    have := may_any a' n cap' gm gl gd' gb al m capl lm lf none 0 0 (fun _ => []) day aq (shL n gm lm gl m lf).length cq lo W hI (hL.on hW) (fun k hk => absurd hk (by omega)) hQ (by omega) (by omega) hcapl h1 h2 h3 (by have := shL_len n gm lm gl m lf; omega) (by omega)
    rw [hg, hvr] at this
    exact this
  have HFi : Hid (∀ a' cap' gd' i W, i < m → vgB n gm gl gd' gb = true → ItAt W a' n gm gl gd' gb → Calls Tryd.prog 9 #[.slice a' n cap', .string (tx (lm i))] W fun e w' => e = .returned (.tuple #[.int .i64 (ixO n gm lm i : Nat), .int .i64 0]) ∧ Below W.heap.size W w') := Lib.hid fun a' cap' gd' i W hi hg hI => by
    have := find_say a' n cap' gm gl gd' gb W hI (by omega) h1 h2 (lm i) (h3 i hi)
    obtain ⟨e1, e2, _⟩ := fi_of (gd := gd') (gl := gl) (gb := gb) (by rw [hg, hvr]; rfl) hi
    rw [e1, e2] at this
    exact this
  have HLk : Hid (∀ a' cap' gd' i d W, i < m → vgB n gm gl gd' gb = true → ItAt W a' n gm gl gd' gb → n ≤ cap' → Btw d 0 100000 → Calls Tryd.prog 10 #[.slice a' n cap', .string (tx (lm i)), .int .i64 d] W fun e w' => (∃ a2 c2, e = .returned (.tuple #[.slice a2 n c2, .int .i64 0]) ∧ n ≤ c2 ∧ ItAt w' a2 n gm gl (updF gd' (ixO n gm lm i) d) gb) ∧ Below W.heap.size W w') := Lib.hid fun a' cap' gd' i d W hi hg hI hc hd => by
    have hl := looked_any a' n cap' gm gl gd' gb W hI (by omega) hc h1 h2 (lm i) (h3 i hi) d
    have hf : fdN gm n (lm i) = some (ixO n gm lm i) := lk_ok hb hi
    rw [hg, lkE_ok hf hd] at hl
    refine hl.mono ?_
    rintro e w' ⟨⟨h, _⟩ | ⟨_, j, a2, c2, e1, _, e2, e3, e4⟩, hbb⟩
    · exact absurd rfl h
    · rw [hf] at e1
      cases e1
      exact ⟨⟨a2, c2, e2, e3, e4⟩, hbb⟩
  have hUd := tr_day hb (gd := gd)
  have HF1 := Lib.hid (tr_may hb (gs := fun _ => []) (gd' := gd) hUd (fun i hi => unT_le m i hi))
  have HF2 := Lib.hid (fun t (ht : t < (shL n gm lm gl m lf).length) lo' h => tr_more hb (gs := fun _ => []) hUd ht (lo' := lo') h)
  have HF3 := Lib.hid (fun day hd hu => tr_late hb (gs := fun _ => []) (day := day) hd hu)
  have HF4 := Lib.hid (fun gd' day hd hdd => tr_may hb (gs := fun _ => []) (gd' := gd') (day := day) hd hdd)
  have HLd := Lib.hid (tr_wg hb).2.1
  have HVu := Lib.hid (fun gd' i d (hg : vgB n gm gl gd' gb = true) hd => vg_upd (gm := gm) (gl := gl) (gb := gb) hg (i := i) (d := d) hd)
  have hKl := shL_len n gm lm gl m lf
  have HIx := Lib.hid (fun i (hi : i < m) => (fi_of hb hi).2.2)
  have hVL : unN true n gm lm gd m = unT (fun i => gd (ixO n gm lm i)) m := rfl
  rw [hb] at HV HSh HU
  rw [hVL] at HU
  unfold erB at HU
  simp only [if_true] at HU
  have HAw := Lib.hid awake7_any
  have HA := Lib.hid hA
  have HL := Lib.hid hL
  have HVg := Lib.hid hvg
  have HCp := Lib.hid hcap
  have hnI : (n : Int) ≤ 64 := by omega
  have hmI : (m : Int) ≤ 32 := by omega
  unfold Btw at hUd
  obtain ⟨hu0, hu1⟩ := hUd
  clear hA hL h1 h2 h3 hvg hvr hb hVL hcap hcapl
  generalize hUU : unT (fun i => gd (ixO n gm lm i)) m = U at *
  clear hUU
  generalize hKK : (shL n gm lm gl m lf).length = K at *
  have HSf : Hid (shF n gm lm gl m lf = fun i => (shL n gm lm gl m lf).getD i 0) := Lib.hid rfl
  generalize shF n gm lm gl m lf = lo at *
  have hKI : (K : Int) ≤ 32 := by omega
  go_enter Tryd.func3, Tryd.ntmps3
  go_wp2_with fail
  refine calls_after (HV.out _ (Below.refl _ _)) ?_
  intro x1
  go_wp2_with fail
  refine (HSh.out _ (by (repeat' (first | (with_reducible exact Below.refl _ _) | (with_reducible assumption) | (with_reducible refine Below.alloc ?_ ?_ _) | (with_reducible refine Below.drew ?_) | (with_reducible refine below_drewN ?_ _) | (with_reducible refine Below.setCell ?_ ?_ _) | (with_reducible refine below_after ?_ ?_ _) | (with_reducible refine below_set ?_) | (with_reducible refine After.size_le _ ?_) | (with_reducible refine size_alloc_le ?_) | (with_reducible refine size_set_le ?_) | (with_reducible refine size_drewN_le ?_) | go_size)))).mono ?_
  rintro e w2 ⟨⟨v, rfl, hz⟩, hb2⟩
  obtain ⟨av, cv, rfl, hz⟩ := hz
  obtain ⟨x2, rfl⟩ := after_tr (x1.out.trans (hb2.mono x1.out.size))
  have HZ : Hid (GAt x2.w av K lo) := Lib.hid (by rw [HSf.out, ← hKK]; exact hz)
  rw [hKK]
  clear hz hb2 HV HSh hKK HSf
  go_wp2_with fail
  refine (HU.out _ (by (repeat' (first | (with_reducible exact Below.refl _ _) | (with_reducible assumption) | (with_reducible refine Below.alloc ?_ ?_ _) | (with_reducible refine Below.drew ?_) | (with_reducible refine below_drewN ?_ _) | (with_reducible refine Below.setCell ?_ ?_ _) | (with_reducible refine below_after ?_ ?_ _) | (with_reducible refine below_set ?_) | (with_reducible refine After.size_le _ ?_) | (with_reducible refine size_alloc_le ?_) | (with_reducible refine size_set_le ?_) | (with_reducible refine size_drewN_le ?_) | go_size)))).mono ?_
  rintro e w3 ⟨rfl, hb3⟩
  obtain ⟨x3, rfl⟩ := after_tr (x2.out.trans (hb3.mono x2.out.size))
  have HZ3 := Lib.hid (HZ.out.on hb3)
  clear hb3 HZ HU
  have HM1 := Lib.hid (HMy.out a cap gd U av cv lo x3.w x3.out (HA.out.on x3.out) HVg.out HZ3.out)
  rw [HF1.out.2, HF1.out.1] at HM1
  clear HF1
  go_wp2_with fail
  refine HM1.out.mono ?_
  rintro e w4 ⟨rfl, hb4⟩
  obtain ⟨x4, rfl⟩ := after_tr (x3.out.trans (hb4.mono x3.out.size))
  have HZ4 := Lib.hid (HZ3.out.on hb4)
  clear hb4 HZ3 HM1
  have HLo1 : Hid (∀ t, t < K → 0 ≤ lo t ∧ lo t ≤ 1000000) := HLd
  go_wp2
  go_loopw [12] (fun i W => ∃ t : Nat, t ≤ K ∧ i = .int .i64 t ∧ ∃ y : After x4.w, W = y.w) (fun i _ => K - (intOf i).toNat)
  case atStart => exact ⟨0, Nat.zero_le _, rfl, ⟨x4.w, Below.refl _ _⟩, rfl⟩
  case round =>
    obtain ⟨t, ht, rfl, y, rfl⟩ := hrel
    by_cases hlt : t < K
    · have hlti : (t : Int) < (K : Int) := by omega
      obtain ⟨ee, he1, he2, he3⟩ := HF2.out t hlt (fun j => if j = t then lo j + 1 else lo j) (fun j => rfl)
      obtain ⟨p1, p2⟩ := HLo1.out t hlt
      obtain ⟨bv, offv, rfl, hbv, _⟩ := (HZ4.out.on y.out) t hlt
      have HC := Lib.hid ((HZ4.out.on y.out).on ((Below.refl y.w.heap.size y.w).alloc (Nat.le_refl _) (.cells #[] 3)))
      have HM2 : Hid (∀ b' c' W, Below w.heap.size w W → GRw W b' K (fun j => if j = t then lo j + 1 else lo j) → Calls Tryd.prog 8 #[.slice a n cap, .slice al m capl, .slice none 0 0, .int .i64 U, .slice (some ⟨b', 0, none⟩) K c'] W fun e w' => e = .returned (.tuple #[.bool false, .int .i64 ee]) ∧ Below W.heap.size W w') := Lib.hid fun b' c' W hW hG => by
        have := HMy.out a cap gd U (some ⟨b', 0, none⟩) c' (fun j => if j = t then lo j + 1 else lo j) W hW (HA.out.on hW) HVg.out hG.at
        rw [he3, he1] at this
        exact this
      have HLot : Hid (∀ W b', GRw W b' K lo → GRw (W.setCell ⟨b', t, none⟩ (.int .i64 (lo t + 1))) b' K (fun j => if j = t then lo j + 1 else lo j)) := Lib.hid fun W b' h => h.set (lo t + 1) (fun j _ => by
        by_cases e : j = t
        · subst e; rfl
        · show (if j = t then lo j + 1 else lo j) = if j = t then lo t + 1 else lo j
          rw [if_neg e, if_neg e])
      have hHt : Hid (∀ W b', GRw W b' K lo → W.cell? ⟨b', t, none⟩ = some (.int .i64 (lo t)) ∧ W.frozen? ⟨b', t, none⟩ = false) := Lib.hid fun W b' h => h.2 t hlt
      have Hhlt := Lib.hid hlt
      clear he1 he3 hlt
      generalize lo t = lt at *
      rcases he2 with rfl | rfl
      all_goals
        go_wp2_with (first
          | (at_builtin; refine wpList_append_own _ rfl _ _ 26 rfl y.w.heap.size 3 i0 (.int .i64 0) 1 8 Tryd.underlying26 hi hz0 hz1 hz2 rfl (by decide) _ 0 [] rfl (World.ownsRow_lit y.w #[] 0 (Nat.le_refl _) (by unfold maxLen; omega) rfl) ⟨bv, offv, none⟩ K cv (gxs lo K) rfl (by rw [gxs_len, Nat.mul_one]) (gxs_cells HC.out) (gxs_one lo K) (by unfold maxLen; omega) (by omega) (by simp) ?_; intro v' w5 hown' hgrow _; have hb5 : Below y.w.heap.size y.w w5 := ((Below.refl y.w.heap.size y.w).alloc (Nat.le_refl _) (.cells #[] 3)).grown hgrow (by simp) (fun j e => by cases e; exact Nat.le_refl _); simp only [Nat.zero_add, List.nil_append] at hown'; obtain ⟨b5, c5, rfl, q5, g5⟩ := grw_of hown' (by have := Hhlt.out; omega); obtain ⟨z0, z1⟩ := hHt.out _ _ g5; have hbk := World.block_lt_of_cell? _ _ z0; have HG5 := Lib.hid (HLot.out _ _ g5); have HB5 := Lib.hid hb5; have HQ5 := Lib.hid q5; clear hown' hgrow hb5 g5 q5)
          | (go_at_call 8; refine (HM2.out b5 c5 _ (x4.out.trans (((y.out.trans (HB5.out.mono y.out.size)).setCell (p := ⟨b5, t, none⟩) (by have := HQ5.out; have := y.out.size; dsimp only; omega) _).mono x4.out.size)) HG5.out).mono ?_; rintro e w6 ⟨rfl, hb6⟩; have HB6 : Hid (Below x4.w.heap.size x4.w w6) := Lib.hid (((y.out.trans (HB5.out.mono y.out.size)).setCell (p := ⟨b5, t, none⟩) (by have := HQ5.out; have := y.out.size; dsimp only; omega) _).trans (hb6.mono (by have := y.out.size; have := HB5.out.size; simp; omega))); clear hb6))
        obtain ⟨y6, rfl⟩ := after_tr HB6.out
        go_roundw
        case rel => exact ⟨t + 1, by have := Hhlt.out; omega, by go_num, y6, rfl⟩
        case measure => have := Hhlt.out; simp [intOf]; omega
    · obtain rfl : t = K := by omega
      by_cases hdy : U + later ≤ 100000
      · have hd : Btw (U + later) 0 100000 := by unfold Btw; omega
        obtain ⟨f1, f2⟩ := HF3.out (U + later) hd (by omega)
        have HM3 := Lib.hid (HMy.out a cap gd (U + later) av cv lo y.w (x4.out.trans (y.out.mono x4.out.size)) (HA.out.on (x4.out.trans (y.out.mono x4.out.size))) HVg.out (HZ4.out.on y.out))
        rw [f2, f1] at HM3
        clear f1 f2 HF2 HF3
        have HD := Lib.hid hd
        clear hd
        go_wp2_with fail
        refine HM3.out.mono ?_
        rintro e w7 ⟨rfl, hb7⟩
        obtain ⟨y7, rfl⟩ := after_tr (y.out.trans (hb7.mono y.out.size))
        clear hb7 HM3
        generalize hday : U + later = day at *
        have HX7 : Hid (∀ z : After x4.w, Below w.heap.size w z.w) := Lib.hid (fun z => x4.out.trans (z.out.mono x4.out.size))
        go_wp2
        go_loopw [17, 18] (fun s i W => ∃ (k : Nat) (a' : Option Addr) (c' : Nat) (gd' : Nat → Int), k ≤ m ∧ i = .int .i64 k ∧ s = .slice a' n c' ∧ Hid (n ≤ c' ∧ vgB n gm gl gd' gb = true ∧ ∀ j, j < k → day ≤ gd' (ixO n gm lm j)) ∧ ∃ z : After x4.w, W = z.w ∧ Hid (ItAt z.w a' n gm gl gd' gb)) (fun _ i _ => m - (intOf i).toNat)
        case atStart => exact ⟨0, a, cap, gd, Nat.zero_le _, rfl, rfl, Lib.hid ⟨HCp.out, HVg.out, fun j hj => by omega⟩, y7, rfl, Lib.hid (HA.out.on (HX7.out y7))⟩
        case round =>
          obtain ⟨k, a', c', gd', hk, rfl, rfl, HS, z, rfl, HI⟩ := hrel
          by_cases hlt : k < m
          · have hlti : (k : Int) < (m : Int) := by omega
            obtain ⟨bl, offl, rfl, hbl, l0, l1⟩ := (HL.out.on (HX7.out z)) k hlt
            have HF := Lib.hid (HFi.out a' c' gd' k z.w hlt HS.out.2.1 HI.out)
            have HK := Lib.hid (fun W h => HLk.out a' c' gd' k day W hlt HS.out.2.1 h HS.out.1 HD.out)
            have hix := HIx.out k hlt
            have hixI : ((ixO n gm lm k : Nat) : Int) < (n : Int) := by omega
            have HU1 := Lib.hid (HVu.out gd' (ixO n gm lm k) day HS.out.2.1 HD.out)
            have HSt1 : Hid (∀ j, j < k + 1 → day ≤ updF gd' (ixO n gm lm k) day (ixO n gm lm j)) := Lib.hid fun j hj => by
              unfold updF
              by_cases e : ixO n gm lm j = ixO n gm lm k
              · rw [if_pos e]; omega
              · rw [if_neg e]
                exact HS.out.2.2 j (by
                  by_cases e2 : j = k
                  · subst e2; exact absurd rfl e
                  · omega)
            have HSt2 : Hid (¬ gd' (ixO n gm lm k) < day → ∀ j, j < k + 1 → day ≤ gd' (ixO n gm lm j)) := Lib.hid fun h j hj => by
              by_cases e2 : j = k
              · subst e2; omega
              · exact HS.out.2.2 j (by omega)
            generalize lm k = mk at *
            generalize ixO n gm lm k = ix at *
            go_wp2_with fail
            refine HF.out.mono ?_
            rintro e w8 ⟨rfl, hb8⟩
            have l0' := (hb8.cell (p := ⟨bl, offl + k * 2, none⟩) hbl).trans l0
            have HI8 := Lib.hid (HI.out.on hb8)
            have hb8' := z.out.trans (hb8.mono z.out.size)
            obtain ⟨bi, offi, rfl, hbi, p0, p1, p2, p3⟩ := HI8.out ix hix
            have HK8 := Lib.hid (HK.out w8 HI8.out)
            have hbl8 : bl < w8.heap.size := Nat.lt_of_lt_of_le hbl hb8.size
            clear hb8 HF l0 HK
            obtain ⟨z8, rfl⟩ := after_tr hb8'
            clear hb8'
            by_cases hdd : gd' ix < day
            · clear HSt2
              generalize gd' ix = gx at *
              go_wp2_with fail
              refine HK8.out.mono ?_
              rintro e w9 ⟨⟨a2, c2, rfl, q1, q2⟩, hb9⟩
              have HI9 := Lib.hid q2
              have HC9 := Lib.hid q1
              obtain ⟨z9, rfl⟩ := after_tr (z8.out.trans (hb9.mono z8.out.size))
              clear hb9 q1 q2 HK8
              go_wp2
              go_roundw
              case rel => exact ⟨k + 1, a2, c2, _, by omega, by go_num, rfl, Lib.hid ⟨HC9.out, HU1.out, HSt1.out⟩, z9, rfl, HI9⟩
              case measure => simp [intOf]; omega
            · have HS3 := Lib.hid (HSt2.out (by omega))
              clear HSt2 HK8 HSt1 HU1
              generalize gd' ix = gx at *
              go_wp2
              go_roundw
              case rel => exact ⟨k + 1, _, _, _, by omega, by go_num, rfl, Lib.hid ⟨HS.out.1, HS.out.2.1, HS3.out⟩, z8, rfl, HI8⟩
              case measure => simp [intOf]; omega
          · obtain rfl : k = m := by omega
            obtain ⟨f1, f2⟩ := HF4.out gd' day HD.out HS.out.2.2
            have HM4 := Lib.hid (HMy.out a' c' gd' day av cv lo z.w (HX7.out z) HI.out HS.out.2.1 (HZ4.out.on z.out))
            rw [f2, f1] at HM4
            clear f1 f2 HF4
            go_wp2_with fail
            refine HM4.out.mono ?_
            rintro e w9 ⟨rfl, hb9⟩
            obtain ⟨z9, rfl⟩ := after_tr (z.out.trans (hb9.mono z.out.size))
            clear hb9 HM4
            go_wp2_with (go_at_call 5; refine (HAw.out _).mono ?_; rintro e w10 ⟨rfl, hb10⟩; have HB10 := Lib.hid ((HX7.out z9).trans (hb10.mono (HX7.out z9).size)); clear hb10)
            go_ret
            exact ⟨rfl, HB10.out⟩
      · have hdy' : (100000 : Int) < U + later := by omega
        clear HF2 HF3 HF4
        go_wp2_with (go_at_call 5; refine (HAw.out _).mono ?_; rintro e w9 ⟨rfl, hb9⟩; have HB9 := Lib.hid ((x4.out.trans (y.out.mono x4.out.size)).trans (hb9.mono (Nat.le_trans x4.out.size y.out.size))); clear hb9)
        go_ret
        exact ⟨rfl, HB9.out⟩
set_option maxRecDepth 100000 in
set_option maxHeartbeats 2000000 in
theorem topRigs_any (hn : n ≤ 9223372036854775807) (hm : m ≤ 9223372036854775807) :
    Calls Tryd.prog 3 #[.slice a n cap, .slice al m capl, .int .i64 later] w fun e w' => e = .returned (.bool true) ∧ Below w.heap.size w w' := by
  by_cases hq : (n ≤ 64 ∧ m ≤ 32) ∧ (vgB n gm gl gd gb && vrB n m gm lm lf) = true ∧ 1 ≤ later ∧ later ≤ 1000
  · exact topRigs_ok a n cap gm gl gd gb al m capl lm lf later w hA hL hcap hcapl h1 h2 h3 hq.2.1 hq.1.1 hq.1.2 hq.2.2.1 hq.2.2.2
  · have HAw := Lib.hid awake7_any
    have hnI : (n : Int) ≤ 9223372036854775807 := by omega
    have hmI : (m : Int) ≤ 9223372036854775807 := by omega
    by_cases q1 : (64 : Int) < (n : Int)
    · clear hq hA hL h1 h2 h3
      go_enter Tryd.func3, Tryd.ntmps3
      go_wp2_with fail
      refine calls_after (HAw.out _) ?_
      intro x1
      go_wp2
      go_ret
      exact ⟨rfl, by (repeat' (first | (with_reducible exact Below.refl _ _) | (with_reducible assumption) | (with_reducible refine Below.alloc ?_ ?_ _) | (with_reducible refine Below.drew ?_) | (with_reducible refine below_drewN ?_ _) | (with_reducible refine Below.setCell ?_ ?_ _) | (with_reducible refine below_after ?_ ?_ _) | (with_reducible refine below_set ?_) | (with_reducible refine After.size_le _ ?_) | (with_reducible refine size_alloc_le ?_) | (with_reducible refine size_set_le ?_) | (with_reducible refine size_drewN_le ?_) | go_size))⟩
    · by_cases q2 : (32 : Int) < (m : Int)
      · clear hq hA hL h1 h2 h3
        go_enter Tryd.func3, Tryd.ntmps3
        go_wp2_with fail
        refine calls_after (HAw.out _) ?_
        intro x1
        go_wp2
        go_ret
        exact ⟨rfl, by (repeat' (first | (with_reducible exact Below.refl _ _) | (with_reducible assumption) | (with_reducible refine Below.alloc ?_ ?_ _) | (with_reducible refine Below.drew ?_) | (with_reducible refine below_drewN ?_ _) | (with_reducible refine Below.setCell ?_ ?_ _) | (with_reducible refine below_after ?_ ?_ _) | (with_reducible refine below_set ?_) | (with_reducible refine After.size_le _ ?_) | (with_reducible refine size_alloc_le ?_) | (with_reducible refine size_set_le ?_) | (with_reducible refine size_drewN_le ?_) | go_size))⟩
      · have HV := Lib.hid (rvalidRig_say a n cap gm gl gd gb al m capl lm lf w hA hL (by omega) (by omega) hcapl h1 h2 h3)
        have hq' : ¬ ((vgB n gm gl gd gb && vrB n m gm lm lf) = true ∧ 1 ≤ later ∧ later ≤ 1000) := fun h => hq ⟨⟨by omega, by omega⟩, h⟩
        generalize (vgB n gm gl gd gb && vrB n m gm lm lf) = c at *
        clear hq hA hL h1 h2 h3
        cases c
        · clear hq'
          go_enter Tryd.func3, Tryd.ntmps3
          go_wp2_with fail
          refine calls_after HV.out ?_
          intro x1
          go_wp2_with fail
          refine calls_after2 (HAw.out _) ?_
          intro x2
          go_wp2
          go_ret
          exact ⟨rfl, by (repeat' (first | (with_reducible exact Below.refl _ _) | (with_reducible assumption) | (with_reducible refine Below.alloc ?_ ?_ _) | (with_reducible refine Below.drew ?_) | (with_reducible refine below_drewN ?_ _) | (with_reducible refine Below.setCell ?_ ?_ _) | (with_reducible refine below_after ?_ ?_ _) | (with_reducible refine below_set ?_) | (with_reducible refine After.size_le _ ?_) | (with_reducible refine size_alloc_le ?_) | (with_reducible refine size_set_le ?_) | (with_reducible refine size_drewN_le ?_) | go_size))⟩
        · by_cases q3 : later < 1
          · clear hq'
            go_enter Tryd.func3, Tryd.ntmps3
            go_wp2_with fail
            refine calls_after HV.out ?_
            intro x1
            go_wp2_with fail
            refine calls_after2 (HAw.out _) ?_
            intro x2
            go_wp2
            go_ret
            exact ⟨rfl, by (repeat' (first | (with_reducible exact Below.refl _ _) | (with_reducible assumption) | (with_reducible refine Below.alloc ?_ ?_ _) | (with_reducible refine Below.drew ?_) | (with_reducible refine below_drewN ?_ _) | (with_reducible refine Below.setCell ?_ ?_ _) | (with_reducible refine below_after ?_ ?_ _) | (with_reducible refine below_set ?_) | (with_reducible refine After.size_le _ ?_) | (with_reducible refine size_alloc_le ?_) | (with_reducible refine size_set_le ?_) | (with_reducible refine size_drewN_le ?_) | go_size))⟩
          · have q4 : 1000 < later := by
              rcases Int.lt_or_le 1000 later with h | h
              · exact h
              · exact absurd ⟨rfl, by omega, h⟩ hq'
            clear hq'
            go_enter Tryd.func3, Tryd.ntmps3
            go_wp2_with fail
            refine calls_after HV.out ?_
            intro x1
            go_wp2_with fail
            refine calls_after2 (HAw.out _) ?_
            intro x2
            go_wp2
            go_ret
            exact ⟨rfl, by (repeat' (first | (with_reducible exact Below.refl _ _) | (with_reducible assumption) | (with_reducible refine Below.alloc ?_ ?_ _) | (with_reducible refine Below.drew ?_) | (with_reducible refine below_drewN ?_ _) | (with_reducible refine Below.setCell ?_ ?_ _) | (with_reducible refine below_after ?_ ?_ _) | (with_reducible refine below_set ?_) | (with_reducible refine After.size_le _ ?_) | (with_reducible refine size_alloc_le ?_) | (with_reducible refine size_set_le ?_) | (with_reducible refine size_drewN_le ?_) | go_size))⟩
end
end Go.Proofs.YteojmhfocdlnoaaDoor.Tr
