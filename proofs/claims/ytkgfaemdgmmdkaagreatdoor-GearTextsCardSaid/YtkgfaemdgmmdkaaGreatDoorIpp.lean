/- The reference's Parse of a text of gear. The sixth reference's Cut. -/
import Derived.Test.YtkgfaemdgmmdkaaGreatDoorGxWordsr
import Derived.Test.YtkgfaemdgmmdkaaGreatDoorIpq
import Derived.Test.YtkgfaemdgmmdkaaGreatDoorGxSxNum
import Derived.Test.YtkgfaemdgmmdkaaGreatDoorGxNumbs
import Derived.Deep.RegionHeld3
namespace Go.Proofs.YtkgfaemdgmmdkaaGreatDoor.Gx
open Go.Proofs.YtkgfaemdgmmdkaaGreatDoor
open Go.RowKit
attribute [local go_sem] After.cell After.frozen After.lt After.le After.ne After.ne' After.set_eq After.size_set After.lt_add tx_size

/-- What is cut off behind the first k signs, the last word too where the text ends. -/
def cutT (mark : UInt8) (s : List UInt8) (k : Nat) : List (List UInt8) := if k ≤ s.length then (cutW mark (s.take k)).1 else wordsL mark s
set_option maxRecDepth 100000 in
set_option maxHeartbeats 2000000 in
theorem cut6_any (s : List UInt8) (mark : UInt8) (w : World) (hs : s.length ≤ 1000000000) :
    Calls Tryz.prog 22 #[.string (tx s), .int .u8 (mark.toNat : Nat)] w fun e w' => ∃ v, e = .returned v ∧ w'.ownsRow w.heap.size 9 1 v (wordsL mark s).length (wvs (wordsL mark s)) ∧ Below w.heap.size w w' := by
  obtain ⟨i0, hi, hz0, hz1, hz2⟩ := info_parts strInfo
  go_enter Tryz.func22, Tryz.ntmps22
  go_wp2
  go_loopw [5, 6, 7] (fun v f i wr => ∃ k : Nat, k ≤ s.length + 1 ∧ i = .int .i64 k ∧ (k ≤ s.length → f = .int .i64 (k - (cutW mark (s.take k)).2.length : Nat)) ∧ (∃ f0 : Int, f = .int .i64 f0) ∧ ∃ x : After w, wr = x.w ∧ x.w.ownsRow w.heap.size 9 1 v (cutT mark s k).length (wvs (cutT mark s k))) (fun _ _ i _ => s.length + 1 - (intOf i).toNat)
  case atStart => exact ⟨0, by omega, rfl, fun _ => by simp [cutW], ⟨0, rfl⟩, ⟨w, Below.refl _ _⟩, rfl, by simpa [cutT, cutW, wvs] using World.ownsRow_nil _ _ _ _⟩
  case round =>
    obtain ⟨k, hk, rfl, hf, hff, x, rfl, hown⟩ := hrel
    have hsx := x.out.size
    by_cases hle : k ≤ s.length
    · obtain rfl := hf hle
      clear hf hff
      have eT : cutT mark s k = (cutW mark (s.take k)).1 := if_pos hle
      rw [eT] at hown
      have hcl := cutW_len mark (s.take k)
      rw [List.length_take] at hcl
      obtain ⟨p, hp1, hp2⟩ := cutW_tail mark (s.take k)
      rw [List.length_take, Nat.min_eq_left hle] at hp2
      have hcut : ((s.take k).drop (k - (cutW mark (s.take k)).2.length)) = (cutW mark (s.take k)).2 := by
        rw [show k - (cutW mark (s.take k)).2.length = p.length by omega]
        conv => lhs; rw [hp1]
        simp
      have hcu := fun w => run_tx_cut (P := Tryz.prog) w Tryz.underlying9 s (k - (cutW mark (s.take k)).2.length) k (by omega) hle
      rw [hcut] at hcu
      have hkI : (k : Int) ≤ (s.length : Int) := by omega
      have hkd : decide ((k : Int) ≤ (s.length : Int)) = true := decide_eq_true hkI
      have hl2 : k - (cutW mark (s.take k)).2.length ≤ k := by omega
      by_cases hlt : k < s.length
      · obtain ⟨c, hc⟩ : ∃ c, s[k]? = some c := ⟨_, List.getElem?_eq_getElem hlt⟩
        have htk : s.take (k + 1) = s.take k ++ [c] := by rw [List.take_add_one, hc]; rfl
        have hix := fun w => run_tx_index (P := Tryz.prog) w Tryz.underlying9 s k c hc
        have hkn : ((k : Int) == (s.length : Int)) = false := beq_eq_false_iff_ne.2 (by omega)
        have eT1 : Hid (cutT mark s (k + 1) = (cutW mark (s.take (k + 1))).1) := Lib.hid (if_pos hlt)
        by_cases hm : c = mark
        · have e0 : (((c.toNat : Nat) : Int) == ((mark.toNat : Nat) : Int)) = true := by rw [hm]; exact beq_self_eq_true _
          have HN := Lib.hid (cutW_snoc_mark mark (s.take k))
          rw [← hm] at HN
          rw [← htk] at HN
          clear hp1 hp2 hcut htk eT
          rw [hm] at HN
          generalize (cutW mark (s.take k)).2 = T at *
          generalize (cutW mark (s.take k)).1 = V at *
          generalize k - T.length = F at *
          go_wp2_with (at_builtin; refine wpList_append_own _ rfl _ _ 59 rfl w.heap.size 9 i0 (.string ByteArray.empty) 1 16 Tryz.underlying59 hi hz0 hz1 hz2 rfl (by decide) _ _ _ rfl (hown.alloc _) ⟨x.w.heap.size, 0, none⟩ 1 1 [.string (tx T)] rfl rfl (World.news_of_block (cs := #[.string (tx T)]) (t := 9) (fr := (0, 0)) (heap_alloc_new x.w _)) (by simp [Value.oneCell']) (by unfold maxLen; omega) (by omega) (by simp; omega) ?_; intro v' w1 hown' hgrow _)
          go_roundw
          case rel => exact ⟨k + 1, by omega, by go_num, fun _ => by rw [HN.out]; simp, ⟨_, rfl⟩, ⟨w1, (x.out.alloc hsx _).grown hgrow (by simp; omega) (fun j e => (hown.lt j e).1)⟩, rfl, by rw [eT1.out, HN.out]; simpa [wvs] using hown'⟩
          case measure => simp [intOf]; omega
        · have e0 : (((c.toNat : Nat) : Int) == ((mark.toNat : Nat) : Int)) = false := by
            rw [beq_eq_false_iff_ne]
            intro h
            exact hm (UInt8.toNat_inj.1 (by omega))
          have HN := Lib.hid (cutW_snoc mark c hm (s.take k))
          rw [← htk] at HN
          clear hp1 hp2 hcut htk hm eT
          generalize (cutW mark (s.take k)).2 = T at *
          generalize (cutW mark (s.take k)).1 = V at *
          have HF : Hid (k - T.length = k + 1 - (T ++ [c]).length) := Lib.hid (by simp)
          generalize k - T.length = F at *
          go_wp2
          go_roundw
          case rel => exact ⟨k + 1, by omega, by go_num, fun _ => by rw [HN.out, HF.out], ⟨_, rfl⟩, x, rfl, by rw [eT1.out, HN.out]; exact hown⟩
          case measure => simp [intOf]; omega
      · obtain rfl : k = s.length := by omega
        rw [List.take_length] at *
        have hkn : ((s.length : Int) == (s.length : Int)) = true := beq_self_eq_true _
        have HW : Hid (cutT mark s (s.length + 1) = (cutW mark s).1 ++ [(cutW mark s).2]) := Lib.hid (by unfold cutT; rw [if_neg (by omega)]; rfl)
        clear hp1 hp2 hcut eT
        generalize (cutW mark s).2 = T at *
        generalize (cutW mark s).1 = V at *
        generalize s.length - T.length = F at *
        go_wp2_with (at_builtin; refine wpList_append_own _ rfl _ _ 59 rfl w.heap.size 9 i0 (.string ByteArray.empty) 1 16 Tryz.underlying59 hi hz0 hz1 hz2 rfl (by decide) _ _ _ rfl (hown.alloc _) ⟨x.w.heap.size, 0, none⟩ 1 1 [.string (tx T)] rfl rfl (World.news_of_block (cs := #[.string (tx T)]) (t := 9) (fr := (0, 0)) (heap_alloc_new x.w _)) (by simp [Value.oneCell']) (by unfold maxLen; omega) (by omega) (by simp; omega) ?_; intro v' w1 hown' hgrow _)
        go_roundw
        case rel => exact ⟨s.length + 1, by omega, by first | rfl | go_num, fun h => absurd h (by omega), ⟨_, rfl⟩, ⟨w1, (x.out.alloc hsx _).grown hgrow (by simp; omega) (fun j e => (hown.lt j e).1)⟩, rfl, by rw [HW.out]; simpa [wvs] using hown'⟩
        case measure => simp [intOf]
    · obtain rfl : k = s.length + 1 := by omega
      obtain ⟨f0, rfl⟩ := hff
      have eT : cutT mark s (s.length + 1) = wordsL mark s := by unfold cutT; rw [if_neg (by omega)]
      rw [eT] at hown
      have hkd : decide ((s.length : Int) + 1 ≤ (s.length : Int)) = false := decide_eq_false (by omega)
      have HO := Lib.hid hown
      clear hf eT
      go_wp2
      go_ret
      exact ⟨_, rfl, HO.out, by (repeat' (first | (with_reducible exact Below.refl _ _) | (with_reducible assumption) | (with_reducible refine Below.alloc ?_ ?_ _) | (with_reducible refine Below.drew ?_) | (with_reducible refine below_drewN ?_ _) | (with_reducible refine Below.setCell ?_ ?_ _) | (with_reducible refine below_after ?_ ?_ _) | (with_reducible refine below_set ?_) | (with_reducible refine After.size_le _ ?_) | (with_reducible refine size_alloc_le ?_) | (with_reducible refine size_set_le ?_) | (with_reducible refine size_drewN_le ?_) | go_size))⟩
end Go.Proofs.YtkgfaemdgmmdkaaGreatDoor.Gx
namespace Go.Proofs.YtkgfaemdgmmdkaaGreatDoor.Gx
open Go.Proofs.YtkgfaemdgmmdkaaGreatDoor
open Go.RowKit
attribute [local go_sem] After.cell After.frozen After.lt After.le After.ne After.ne' After.set_eq After.size_set After.lt_add tx_size tx_toList

theorem noI_words {ls : List (List UInt8)} {ps : List It} {k : Nat} {t : List UInt8} (hk : ps.length = k) (ht : ls[k]? = some t) (hb : ∀ p, GoodI (ps ++ [p]) → wordsL 32 t ≠ wdI p) : NoI ls ps := by
  subst hk
  intro t' p ht' e hG
  rw [ht] at ht'
  cases ht'
  exact hb p hG (by rw [e, words_it (goodI_last hG)])
theorem noI_len {ls : List (List UInt8)} {ps : List It} {k : Nat} {t : List UInt8} (hk : ps.length = k) (ht : ls[k]? = some t) (hb : (wordsL 32 t).length ≠ 4) : NoI ls ps := noI_words hk ht fun p _ hw => hb (by rw [hw]; rfl)
theorem goodI_15 {ps : List It} {p : It} (h : GoodI (ps ++ [p])) : In15 p.2.1 ∧ In15 p.2.2.1 := by
  obtain ⟨_, _, _, _, h1, h2⟩ := ok_facts (p := p) (goodI_at h (i := ps.length) (by simp))
  unfold In15; omega
theorem noI_num {ls : List (List UInt8)} {ps : List It} {k : Nat} {t y0 y1 y2 y3 : List UInt8} (hk : ps.length = k) (ht : ls[k]? = some t) (hw : wordsL 32 t = [y0, y1, y2, y3]) (hb : (∀ n, In15 n → Lib.itoa n ≠ y1) ∨ (∀ n, In15 n → Lib.itoa n ≠ y2)) : NoI ls ps := noI_words hk ht fun p hG e => by
  rw [hw] at e
  simp only [wdI, List.cons.injEq, and_true] at e
  obtain ⟨rfl, e1, e2, rfl⟩ := e
  rcases hb with h | h
  · exact h _ (goodI_15 hG).1 e1.symm
  · exact h _ (goodI_15 hG).2 e2.symm
theorem noI_bad {ls : List (List UInt8)} {ps : List It} {k : Nat} {t : List UInt8} {p : It} (hk : ps.length = k) (ht : ls[k]? = some t) (hw : t = itL p) (hi : InI p) (hb : ¬ GoodI (ps ++ [p])) : NoI ls ps := by
  subst hk
  intro t' q ht' e hG
  rw [ht] at ht'
  cases ht'
  rw [hw] at e
  rw [it_inj hi (goodI_last hG) e] at hb
  exact hb hG
theorem pi_put {ls : List (List UInt8)} {ps : List It} {k : Nat} {p : It} (hp : PI ls ps) (hk : ps.length = k) (ht : ls[k]? = some (itL p)) (hG : GoodI (ps ++ [p])) : PI ls (ps ++ [p]) := by
  subst hk
  refine ⟨hG, fun i q hq => ?_⟩
  rcases Nat.lt_or_ge i ps.length with h | h
  · rw [List.getElem?_append_left h] at hq
    exact hp.2 i q hq
  · have hi := (List.getElem?_eq_some_iff.1 hq).1
    simp at hi
    obtain rfl : i = ps.length := by omega
    simp at hq
    rw [← hq]; exact ht
theorem in15_64 {n : Int} (h : In15 n) : I64 n := by unfold In15 at h; unfold I64; omega
set_option maxRecDepth 100000 in
set_option maxHeartbeats 2000000 in
theorem rparseI_long (s : List UInt8) (w : World) (hs : 65536 < s.length) :
    Calls Tryz.prog 8 #[.string (tx s)] w fun e w' => e = .returned (.tuple #[.slice none 0 0, .int .i64 0, .int .i64 3]) ∧ Below w.heap.size w w' := by
  have hs' : (65536 : Int) < (s.length : Int) := by omega
  go_enter Tryz.func8, Tryz.ntmps8
  go_wp2
  go_returns
  exact ⟨rfl, by (repeat' (first | (with_reducible exact Below.refl _ _) | (with_reducible assumption) | (with_reducible refine Below.alloc ?_ ?_ _) | (with_reducible refine Below.drew ?_) | (with_reducible refine below_drewN ?_ _) | (with_reducible refine Below.setCell ?_ ?_ _) | (with_reducible refine below_after ?_ ?_ _) | (with_reducible refine below_set ?_) | (with_reducible refine After.size_le _ ?_) | (with_reducible refine size_alloc_le ?_) | (with_reducible refine size_set_le ?_) | (with_reducible refine size_drewN_le ?_) | go_size))⟩
theorem rvalid_row {W : World} {B : Nat} {v : Value} {k : Nat} {ps : List It} {p : It} (ho : W.ownsRow B 33 4 v (k + 1) (icv (ps ++ [p]))) (hk : ps.length = k) (hk5 : k ≤ 64) (hs : ShI (ps ++ [p])) :
    Calls Tryz.prog 11 #[v] W fun x w' => x = .returned (.bool (gB (ps ++ [p]))) ∧ Below W.heap.size W w' := by
  have hl : (ps ++ [p]).length = k + 1 := by simp [hk]
  rw [← hl] at ho
  obtain ⟨a, c, rfl, _, hI⟩ := iat_row ho
  exact rvalid_i hI (by omega) hs W (Below.refl _ _)
set_option maxRecDepth 100000 in
set_option maxHeartbeats 4000000 in
theorem rparseI_any (s : List UInt8) (w : World) (hs : s.length ≤ 65536) :
    Calls Tryz.prog 8 #[.string (tx s)] w fun e w' => (∃ B, PAnsI w' B (wordsL 10 s) e) ∧ Below w.heap.size w w' := by
  obtain ⟨i0, hi, hz0, hz1, hz2⟩ := info_parts itInfo
  have hs' : (s.length : Int) ≤ 65536 := by omega
  have hle := wordsI_le 10 s
  have hl1 := wordsL_len 10 s
  have hl0 : 1 ≤ (wordsL 10 s).length := by simp [wordsL]
  have hw0 := fun V => cut6_any s 10 V (by omega)
  generalize wordsL 10 s = ls at *
  obtain ⟨m, hm⟩ : ∃ m, ls.length = m + 1 := ⟨ls.length - 1, by omega⟩
  have HW : Hid (∀ V : World, Calls Tryz.prog 22 #[.string (tx s), .int .u8 10] V _) := Lib.hid hw0
  have HLe := Lib.hid hle
  have HM := Lib.hid hm
  have hm0 : m ≤ 65536 := by omega
  clear hw0 hle hl1 hl0 hm
  go_enter Tryz.func8, Tryz.ntmps8
  go_wp2_with fail
  refine (HW.out _).mono ?_
  rintro e0 w1 ⟨v1, rfl, ho1, hb1⟩
  have hT := trow_of ho1
  clear HW ho1
  obtain ⟨a, cap, rfl, hcell⟩ := hT
  obtain ⟨g, rfl, hg, hcell⟩ := hcell (by have := HM.out; omega)
  have HC := Lib.hid hcell
  clear hcell
  have hm := HM.out
  rw [hm]
  clear hm
  obtain ⟨x1, rfl⟩ := after_ip hb1
  clear hb1
  go_wp2
  go_loopw [6, 7] (fun v i wr => ∃ (k : Nat) (ps : List It), k ≤ m ∧ i = .int .i64 k ∧ PI ls ps ∧ ps.length = k ∧ ∃ y : After x1.w, wr = y.w ∧ y.w.ownsRow x1.w.heap.size 33 4 v k (icv ps)) (fun _ i _ => m - (intOf i).toNat)
  case atStart => exact ⟨0, [], by omega, rfl, ⟨goodI_nil, fun i p h => by simp at h⟩, rfl, ⟨x1.w, Below.refl _ _⟩, rfl, World.ownsRow_nil _ _ _ _⟩
  case round =>
    obtain ⟨k, ps, hk, rfl, hp, hpk, y, rfl, hown⟩ := hrel
    have hsy := y.out.size
    have hk40 := hp.1.1
    have HPk := Lib.hid hpk
    rw [hpk] at hk40
    clear hpk
    have HP := Lib.hid hp
    clear hp
    have hgy := y.size_lt hg
    by_cases hlt : k < m
    · obtain ⟨t, ht⟩ : ∃ t, ls[k]? = some t := ⟨_, List.getElem?_eq_getElem (by have := HM.out; omega)⟩
      have hc := HC.out k t ht
      have htl := HLe.out t (List.mem_of_getElem? ht)
      have HT := Lib.hid ht
      clear ht
      have hkm : (k : Int) < (m : Int) := by omega
      have HK1 : Hid (∀ V : World, Calls Tryz.prog 22 #[.string (tx t), .int .u8 32] V _) := Lib.hid fun V => cut6_any t 32 V (by omega)
      go_wp2_with fail
      refine (HK1.out _).mono ?_
      rintro e2 w2 ⟨v2, rfl, ho2, hb2⟩
      have hown2 := ownsR_stay hown hb2
      have hT2 := trow_of ho2
      have hlo := fun j e => (ho2.lt j e).1
      have hu6 : ∀ j, some j = u6.ownBlock → j < y.w.heap.size := fun j e => (hown.lt j e.symm).2
      obtain ⟨y2, rfl⟩ := after_ip (y.out.trans (hb2.mono y.out.size))
      clear hb2 ho2 hown HK1
      obtain ⟨a2, c2, rfl, hcell2⟩ := hT2
      by_cases h4 : (wordsL 32 t).length = 4
      · have hle2 := wordsI_le 32 t
        have hfr2 := words_free 32 t
        obtain ⟨q0, q1, q2, q3, hw⟩ := four_words h4
        have HWs := Lib.hid hw
        rw [hw] at hcell2 hle2 hfr2
        rw [h4]
        obtain ⟨g2, rfl, hg2, hcell2⟩ := hcell2 (by simp)
        have hlo2 := hlo g2 rfl
        have ag : some g2 ≠ u6.ownBlock := fun e => by have := hu6 g2 e; omega
        clear hlo hu6
        have d0 := hcell2 0 q0 rfl
        have d1 := hcell2 1 q1 rfl
        have d2 := hcell2 2 q2 rfl
        have d3 := hcell2 3 q3 rfl
        have l0 := hle2 q0 (by simp)
        have l1 := hle2 q1 (by simp)
        have l2 := hle2 q2 (by simp)
        have l3 := hle2 q3 (by simp)
        have HFr := Lib.hid (And.intro (hfr2 q0 (by simp)) (hfr2 q3 (by simp)))
        have N1 := Lib.hid (fun W => number6_any q1 W (by omega))
        have N2 := Lib.hid (fun W => number6_any q2 W (by omega))
        clear hcell2 hle2 hfr2 hw h4
        go_wp2_with fail
        refine (N1.out _).mono ?_
        rintro e3 w3 ⟨⟨n1, b1, rfl, n1y, n1n⟩, hb3⟩
        have hown3 := ownsR_stay hown2 hb3
        have d0 := (hb3.cell (p := ⟨g2, 0, none⟩) hg2).trans d0
        have d1 := (hb3.cell (p := ⟨g2, 1, none⟩) hg2).trans d1
        have d2 := (hb3.cell (p := ⟨g2, 2, none⟩) hg2).trans d2
        have d3 := (hb3.cell (p := ⟨g2, 3, none⟩) hg2).trans d3
        have hg3 : g2 < w3.heap.size := Nat.lt_of_lt_of_le hg2 hb3.size
        have hb3' := y2.out.trans (hb3.mono y2.out.size)
        clear hb3 hown2 N1 hg2
        obtain ⟨y3, rfl⟩ := after_ip hb3'
        clear hb3'
        go_wp2_with fail
        refine (N2.out _).mono ?_
        rintro e4 w4 ⟨⟨n2, b2, rfl, n2y, n2n⟩, hb4⟩
        have hown4 := ownsR_stay hown3 hb4
        have d0 := (hb4.cell (p := ⟨g2, 0, none⟩) hg3).trans d0
        have d3 := (hb4.cell (p := ⟨g2, 3, none⟩) hg3).trans d3
        have hg4 : g2 < w4.heap.size := Nat.lt_of_lt_of_le hg3 hb4.size
        have hb4' := y3.out.trans (hb4.mono y3.out.size)
        clear hb4 hown3 N2 hg3 d1 d2
        obtain ⟨y4, rfl⟩ := after_ip hb4'
        clear hb4'
        have HN := Lib.hid (And.intro (And.intro n1y n1n) (And.intro n2y n2n))
        clear n1y n1n n2y n2n
        have HSn := Lib.hid (icv_snoc ps (q0, n1, n2, q3))
        go_wp2_with fail
        go_region_held3 (fun w' => w'.cell? ⟨g2, 0, none⟩ = some (.string (tx q0)) ∧ w'.cell? ⟨g2, 3, none⟩ = some (.string (tx q3)))
          (first
            | go_keep
            | (go_split_ands
               refine ⟨?_, ?_⟩
               · (rw [hgrow.cell_far _ (by simp; omega) ag]; assumption)
               · (rw [hgrow.cell_far _ (by simp; omega) ag]; assumption)))
          ((refine step_append_lies _ (by rfl) _ _ _ (by rfl) x1.w.heap.size 33 i0 _ 4 48 Tryz.underlying22 hi hz0 hz1 hz2 rfl (by omega) u6 k (icv ps) (by rfl) ((hown4.alloc _).drew)
              ⟨y4.w.heap.size, 0, none⟩ 1 1 [.string (tx q0), .int .i64 n1, .int .i64 n2, .string (tx q3)] (by rfl) (by rfl) (World.news_of_block (cs := #[.string (tx q0), .int .i64 n1, .int .i64 n2, .string (tx q3)]) (t := 33) (fr := (0, 0)) (heap_alloc_new y4.w _)) (by simp [Value.oneCell'])
              (by omega) (by unfold maxLen; omega) (by omega) (by simp; omega) (y4.w.heap.size + 1) (by simp) ?_; intro gg cap2 w5 hown5 hgrow hat hlt2))
        have hbel5 : Below x1.w.heap.size x1.w w5 := (y4.out.alloc y4.out.size (.cells #[.string (tx q0), .int .i64 n1, .int .i64 n2, .string (tx q3)] 33)).drew.grown hgrow (by simp; omega) (fun j e => (hown4.lt j e).1)
        rw [← HSn.out] at hown5
        have HO5 := Lib.hid hown5
        have HLn := Lib.hid (And.intro l0 l3)
        obtain ⟨y5, rfl⟩ := after_ip hbel5
        clear hown5 hgrow hat hlt2 hbel5 hown4 d0 d3 l0 l1 l2 l3 hg4 hc
        cases b1
        · have HB := Lib.hid (noI_num HPk.out HT.out HWs.out (.inl (HN.out.1.2 rfl)))
          clear HN
          go_wp2
          go_returns
          exact ⟨⟨0, .inr ⟨k, ⟨ps, HP.out, HPk.out, .inl ⟨by rw [HM.out]; omega, HB.out⟩⟩, rfl⟩⟩, by (repeat' (first | (with_reducible exact Below.refl _ _) | (with_reducible assumption) | (with_reducible refine Below.alloc ?_ ?_ _) | (with_reducible refine Below.drew ?_) | (with_reducible refine below_drewN ?_ _) | (with_reducible refine Below.setCell ?_ ?_ _) | (with_reducible refine below_after ?_ ?_ _) | (with_reducible refine below_set ?_) | (with_reducible refine After.size_le _ ?_) | (with_reducible refine size_alloc_le ?_) | (with_reducible refine size_set_le ?_) | (with_reducible refine size_drewN_le ?_) | go_size))⟩
        · cases b2
          · have HB := Lib.hid (noI_num HPk.out HT.out HWs.out (.inr (HN.out.2.2 rfl)))
            clear HN
            go_wp2
            go_returns
            exact ⟨⟨0, .inr ⟨k, ⟨ps, HP.out, HPk.out, .inl ⟨by rw [HM.out]; omega, HB.out⟩⟩, rfl⟩⟩, by (repeat' (first | (with_reducible exact Below.refl _ _) | (with_reducible assumption) | (with_reducible refine Below.alloc ?_ ?_ _) | (with_reducible refine Below.drew ?_) | (with_reducible refine below_drewN ?_ _) | (with_reducible refine Below.setCell ?_ ?_ _) | (with_reducible refine below_after ?_ ?_ _) | (with_reducible refine below_set ?_) | (with_reducible refine After.size_le _ ?_) | (with_reducible refine size_alloc_le ?_) | (with_reducible refine size_set_le ?_) | (with_reducible refine size_drewN_le ?_) | go_size))⟩
          · have HQ : Hid (InI (q0, n1, n2, q3) ∧ t = itL (q0, n1, n2, q3)) := Lib.hid ⟨⟨HFr.out, in15_64 (HN.out.1.1 rfl).1, in15_64 (HN.out.2.1 rfl).1⟩, it_of_words (by rw [HWs.out]; unfold wdI; dsimp only; rw [(HN.out.1.1 rfl).2, (HN.out.2.1 rfl).2])⟩
            clear HN
            have HV := Lib.hid (rvalid_row HO5.out HPk.out hk40 (shI_snoc (p := (q0, n1, n2, q3)) (goodI_sh HP.out.1) (by have := HLn.out.1; dsimp only; omega) (by have := HLn.out.2; dsimp only; omega)))
            obtain ⟨gg2, hgg⟩ : ∃ gg2, gB (ps ++ [(q0, n1, n2, q3)]) = gg2 := ⟨_, rfl⟩
            have HGg := Lib.hid hgg
            rw [hgg] at HV
            clear hgg
            go_wp2_with fail
            refine HV.out.mono ?_
            rintro e5 w6 ⟨rfl, hb6⟩
            have HO6 := Lib.hid (ownsR_stay HO5.out hb6)
            obtain ⟨y6, rfl⟩ := after_ip (y5.out.trans (hb6.mono y5.out.size))
            clear HO5 HV hb6
            cases gg2
            · have HB := Lib.hid (noI_bad HPk.out HT.out HQ.out.2 HQ.out.1 (gB_bad HGg.out))
              go_wp2
              go_returns
              exact ⟨⟨0, .inr ⟨k, ⟨ps, HP.out, HPk.out, .inl ⟨by rw [HM.out]; omega, HB.out⟩⟩, rfl⟩⟩, by (repeat' (first | (with_reducible exact Below.refl _ _) | (with_reducible assumption) | (with_reducible refine Below.alloc ?_ ?_ _) | (with_reducible refine Below.drew ?_) | (with_reducible refine below_drewN ?_ _) | (with_reducible refine Below.setCell ?_ ?_ _) | (with_reducible refine below_after ?_ ?_ _) | (with_reducible refine below_set ?_) | (with_reducible refine After.size_le _ ?_) | (with_reducible refine size_alloc_le ?_) | (with_reducible refine size_set_le ?_) | (with_reducible refine size_drewN_le ?_) | go_size))⟩
            · go_wp2
              go_roundw
              case rel => exact ⟨k + 1, ps ++ [(q0, n1, n2, q3)], by omega, by go_num, pi_put HP.out HPk.out (by rw [HT.out, HQ.out.2]) (gB_good.1 HGg.out), by simp [HPk.out], y6, rfl, HO6.out⟩
              case measure => simp [intOf]; omega
      · have HB := Lib.hid (noI_len HPk.out HT.out h4)
        have h4' : (((wordsL 32 t).length : Int) == 4) = false := by rw [beq_eq_false_iff_ne]; omega
        have h4'' : (((wordsL 32 t).length : Int) != 4) = true := by rw [bne_iff_ne]; omega
        clear h4 hcell2
        go_wp2
        go_returns
        exact ⟨⟨0, .inr ⟨k, ⟨ps, HP.out, HPk.out, .inl ⟨by rw [HM.out]; omega, HB.out⟩⟩, rfl⟩⟩, by (repeat' (first | (with_reducible exact Below.refl _ _) | (with_reducible assumption) | (with_reducible refine Below.alloc ?_ ?_ _) | (with_reducible refine Below.drew ?_) | (with_reducible refine below_drewN ?_ _) | (with_reducible refine Below.setCell ?_ ?_ _) | (with_reducible refine below_after ?_ ?_ _) | (with_reducible refine below_set ?_) | (with_reducible refine After.size_le _ ?_) | (with_reducible refine size_alloc_le ?_) | (with_reducible refine size_set_le ?_) | (with_reducible refine size_drewN_le ?_) | go_size))⟩
    · obtain rfl : k = m := by omega
      obtain ⟨t, ht⟩ : ∃ t, ls[k]? = some t := ⟨_, List.getElem?_eq_getElem (by have := HM.out; omega)⟩
      have hc := HC.out k t ht
      have HT := Lib.hid ht
      obtain ⟨av, capv, rfl⟩ : ∃ av capv, u6 = .slice av k capv := ownsR_shape hown
      have HO := Lib.hid hown
      clear ht hown
      by_cases h0 : t = []
      · subst h0
        go_wp2
        go_returns
        exact ⟨⟨_, .inl ⟨ps, _, ⟨HP.out, by rw [HM.out, HPk.out], by rw [HPk.out]; exact HT.out⟩, rfl, by rw [HPk.out]; exact HO.out⟩⟩, by (repeat' (first | (with_reducible exact Below.refl _ _) | (with_reducible assumption) | (with_reducible refine Below.alloc ?_ ?_ _) | (with_reducible refine Below.drew ?_) | (with_reducible refine below_drewN ?_ _) | (with_reducible refine Below.setCell ?_ ?_ _) | (with_reducible refine below_after ?_ ?_ _) | (with_reducible refine below_set ?_) | (with_reducible refine After.size_le _ ?_) | (with_reducible refine size_alloc_le ?_) | (with_reducible refine size_set_le ?_) | (with_reducible refine size_drewN_le ?_) | go_size))⟩
      · have h0' : (t == []) = false := beq_eq_false_iff_ne.2 h0
        have HS := Lib.hid (show StopsI ls k from ⟨ps, HP.out, HPk.out, .inr ⟨HM.out, by rw [HT.out]; intro e; exact h0 (Option.some.inj e)⟩⟩)
        have htl := HLe.out t (List.mem_of_getElem? HT.out)
        have HK1 : Hid (∀ V : World, Calls Tryz.prog 22 #[.string (tx t), .int .u8 32] V _) := Lib.hid fun V => cut6_any t 32 V (by omega)
        go_wp2_with fail
        refine (HK1.out _).mono ?_
        rintro e2 w2 ⟨v2, rfl, ho2, hb2⟩
        obtain ⟨a2, c2, rfl⟩ := ownsR_shape ho2
        obtain ⟨y2, rfl⟩ := after_ip (y.out.trans (hb2.mono y.out.size))
        clear hb2 ho2
        go_wp2
        go_returns
        exact ⟨⟨0, .inr ⟨k, HS.out, rfl⟩⟩, by (repeat' (first | (with_reducible exact Below.refl _ _) | (with_reducible assumption) | (with_reducible refine Below.alloc ?_ ?_ _) | (with_reducible refine Below.drew ?_) | (with_reducible refine below_drewN ?_ _) | (with_reducible refine Below.setCell ?_ ?_ _) | (with_reducible refine below_after ?_ ?_ _) | (with_reducible refine below_set ?_) | (with_reducible refine After.size_le _ ?_) | (with_reducible refine size_alloc_le ?_) | (with_reducible refine size_set_le ?_) | (with_reducible refine size_drewN_le ?_) | go_size))⟩
end Go.Proofs.YtkgfaemdgmmdkaaGreatDoor.Gx
