/- Swapped of the reference. -/
import Derived.Test.YtmbjgaeofkikkaaDoorGsw
namespace Go.Proofs.YtmbjgaeofkikkaaDoor
open Go.RowKit
attribute [local go_sem] After.cell After.frozen After.lt After.le After.ne After.ne' After.set_eq After.size_set After.lt_add tx_size tx_toList

theorem lkAt_set {W : World} {g n i : Nat} {lm : Nat → List UInt8} {lf : Nat → Int} (h : LkAt W (some ⟨g, 0, none⟩) n lm lf) (hi : i < n) (x : List UInt8) : LkAt (W.setCell ⟨g, i * 2, none⟩ (.string (tx x))) (some ⟨g, 0, none⟩) n (updF lm i x) lf := fun k hk => by
  obtain ⟨b, off, e, h1, c0, c1⟩ := h k hk
  cases e
  have far : ∀ c, k * 2 + c ≠ i * 2 → (W.setCell ⟨g, i * 2, none⟩ (.string (tx x))).cell? ⟨g, 0 + k * 2 + c, none⟩ = W.cell? ⟨g, 0 + k * 2 + c, none⟩ := fun c hc => World.cell?_setCell_other _ _ _ _ (fun q => hc (by have q2 : i * 2 = 0 + k * 2 + c := congrArg Addr.off q; omega))
  refine ⟨g, 0, rfl, by simpa using h1, ?_, (far 1 (by omega)).trans c1⟩
  unfold updF
  by_cases hki : k = i
  · subst hki
    rw [if_pos rfl, Nat.zero_add]
    rw [Nat.zero_add] at c0
    exact World.cell?_setCell_same W ⟨g, k * 2, none⟩ _ c0
  · rw [if_neg hki]
    exact (far 0 (by omega)).trans c0
theorem lkAt_cells {W : World} {b off n : Nat} {lm : Nat → List UInt8} {lf : Nat → Int} (h : LkAt W (some ⟨b, off, none⟩) n lm lf) : ∀ j u, (lkc lm lf (fun t => t) n)[j]? = some u → W.cell? ((⟨b, off, none⟩ : Addr).add j) = some u := fun j u hu => by
  have e0 : lkc lm lf (fun t => 0 + t) n = lkc lm lf (fun t => t) n := lkc_congr n (fun t _ => by simp)
  exact lkc_at0 h (Nat.le_refl n) ⟨b, off, none⟩ rfl j u (by rw [e0]; exact hu)
section
variable (a : Option Addr) (n cap : Nat) (gm : Nat → List UInt8) (gl gd : Nat → Int) (gb : Nat → List UInt8) (al : Option Addr) (m capl : Nat) (lm : Nat → List UInt8) (lf : Nat → Int) (w : World) (hA : ItAt w a n gm gl gd gb) (hL : LkAt w al m lm lf) (hn : n ≤ 1000) (hm : m ≤ 1000) (hcap : m ≤ capl) (h1 : Sht n gm) (h2 : Sht n gb) (h3 : Sht m lm)
include hA hL hn hm hcap h1 h2 h3
set_option maxRecDepth 100000 in
set_option maxHeartbeats 1000000 in
theorem rswapped_any (k : Int) (x : List UInt8) : Calls Tryd.prog 46 #[.slice a n cap, .slice al m capl, .int .i64 k, .string (tx x)] w fun e w' => SwA m lm lf x k (swE (vgB n gm gl gd gb && vrB n m gm lm lf) m k (fdN gm n x) (fdN lm m x)) w' e ∧ Below w.heap.size w w' := by
  have HV := Lib.hid (rvalidRig_say a n cap gm gl gd gb al m capl lm lf w hA hL hn hm hcap h1 h2 h3)
  have HF := Lib.hid (fun W (hW : Below w.heap.size w W) => rfind_any a n cap gm gl gd gb x W (hA.on hW) (by omega))
  have HD := Lib.hid (fun W => rwithin_any k 0 ((m : Int) - 1) W)
  have hmI : (m : Int) ≤ 1000 := by omega
  have hwm : IntKind.i64.wrap ((m : Int) - 1) = (m : Int) - 1 := by rw [IntKind.wrap_i64]; omega
  have HL := Lib.hid hL
  cases hb : vgB n gm gl gd gb && vrB n m gm lm lf
  · rw [hb] at HV
    clear hb hA hL h1 h2 h3 HD HF hcap
    go_enter Tryd.func46, Tryd.ntmps46
    go_wp2_with fail
    refine HV.out.mono ?_
    rintro e w2 ⟨rfl, hb2⟩
    have HB2 := Lib.hid hb2
    clear hb2 HV
    go_wp2
    go_returns
    exact ⟨.inl ⟨by simp [swE], rfl⟩, HB2.out⟩
  · rw [hb] at HV
    have HI := Lib.hid (show fdI gm n x = match fdN gm n x with | some i => (i : Nat) | none => -1 from rfl)
    by_cases hd : Btw k 0 ((m : Int) - 1)
    · rw [decide_eq_true hd] at HD
      obtain ⟨i, rfl⟩ : ∃ i : Nat, k = (i : Int) := ⟨k.toNat, by unfold Btw at hd; omega⟩
      have hi : i < m := by unfold Btw at hd; omega
      have hiI : (i : Int) < (m : Int) := by omega
      cases ho : fdN gm n x with
      | none =>
        rw [ho] at HI
        rw [HI.out] at HF
        clear hb ho hA hL h1 h2 h3 HI hcap
        go_enter Tryd.func46, Tryd.ntmps46
        go_wp2_with fail
        refine HV.out.mono ?_
        rintro e w2 ⟨rfl, hb2⟩
        have HB2 := Lib.hid hb2
        clear hb2 HV
        go_wp2_with (go_at_call 50; refine (HD.out _).mono ?_; rintro e w9 ⟨rfl, rfl⟩)
        refine (HF.out _ HB2.out).mono ?_
        rintro e w3 ⟨rfl, hb3⟩
        have HB3 := Lib.hid (HB2.out.trans (hb3.mono HB2.out.size))
        clear hb3 HF
        go_wp2
        go_returns
        exact ⟨.inl ⟨by simp [swE, hd], by simp [swE, hd]⟩, HB3.out⟩
      | some j =>
        rw [ho] at HI
        rw [HI.out] at HF
        have hj := (fdN_some' ho).1
        have hjI : (j : Int) ≤ 1000 := by omega
        obtain ⟨b, off, rfl, hbb, _⟩ := hL i hi
        have HC := Lib.hid (fun W (hW : Below w.heap.size w W) => lkAt_cells (hL.on hW))
        obtain ⟨i0, hi0, hz0, hz1, hz2⟩ := info_parts lkInfo
        have HSw := Lib.hid (show swE true m (i : Nat) (some j) (fdN lm m x) = match fdN lm m x with | some _ => 6 | none => 0 from by unfold swE; rw [if_pos rfl, if_pos hd]; rfl)
        clear hb ho hA hL h1 h2 h3 HI hcap
        go_enter Tryd.func46, Tryd.ntmps46
        go_wp2_with fail
        refine HV.out.mono ?_
        rintro e w2 ⟨rfl, hb2⟩
        have HB2 := Lib.hid hb2
        clear hb2 HV
        go_wp2_with (go_at_call 50; refine (HD.out _).mono ?_; rintro e w9 ⟨rfl, rfl⟩)
        refine (HF.out _ HB2.out).mono ?_
        rintro e w3 ⟨rfl, hb3⟩
        have hB3 := HB2.out.trans (hb3.mono HB2.out.size)
        have HB3 := Lib.hid hB3
        have hs3 := hB3.size
        clear hb3 HF hB3
        go_wp2
        go_loopw [10] (fun v W => ∃ t : Nat, t ≤ m ∧ v = .int .i64 t ∧ Hid (∀ q, q < t → lm q ≠ x) ∧ W = w3) (fun v _ => m - (intOf v).toNat)
        case atStart => exact ⟨0, Nat.zero_le _, rfl, Lib.hid (fun q hq => by omega), rfl⟩
        case round =>
          obtain ⟨t, ht, rfl, HN, rfl⟩ := hrel
          by_cases htm : t < m
          · have htI : (t : Int) < (m : Int) := by omega
            obtain ⟨b', off', e, hb', c0, c1⟩ := HL.out.on HB3.out t htm
            cases e
            by_cases hq : lm t = x
            · have HQ : Hid (∃ q, fdN lm m x = some q) := Lib.hid (by
                cases hz : fdN lm m x with
                | some q => exact ⟨q, rfl⟩
                | none => exact absurd hq (fdN_none.1 hz t htm))
              have hte : (lm t == x) = true := by simp [hq]
              clear hq
              go_wp2
              go_returns
              obtain ⟨q, hq⟩ := HQ.out
              exact ⟨.inl ⟨by rw [HSw.out, hq]; simp, by rw [HSw.out, hq]; rfl⟩, HB3.out⟩
            · have hte : (lm t == x) = false := by simp [hq]
              have HQ := Lib.hid hq
              clear hq
              go_wp2
              go_roundw
              case rel => exact ⟨t + 1, by omega, by go_num, Lib.hid (fun q hq => by
                by_cases e : q = t
                · subst e; exact HQ.out
                · exact HN.out q (by omega)), trivial⟩
              case measure => simp [intOf]; omega
          · obtain rfl : m = t := by omega
            have hno : fdN lm m x = none := fdN_none.2 HN.out
            have HNo := Lib.hid hno
            clear hno
            go_wp2_with (at_builtin; refine wpList_append_own _ rfl _ _ 23 rfl wr.heap.size 37 i0 _ 2 24 Tryd.underlying23 hi0 hz0 hz1 hz2 rfl (by decide) _ 0 [] rfl (World.ownsRow_lit wr #[] 0 (Nat.le_refl _) (by unfold maxLen; omega) rfl) ⟨b, off, none⟩ m capl (lkc lm lf (fun t => t) m) rfl (lkc_len m) (HC.out _ (HB3.out.alloc HB3.out.size _)) (lkc_one _ _ _ _) (by unfold maxLen; omega) (by omega) (by simp) ?_; go_loud (intro v' w4 hown' hgrow _; rw [Nat.zero_add, List.nil_append] at hown'; obtain ⟨g2, c2, rfl⟩ := Go.Joins.ownsRow_form hown' (by omega); have HI := Lib.hid (lkAt_set (lkAt_of hown') hi x); obtain ⟨_, _, ee, _, q2, _⟩ := lkAt_of hown' i hi; cases ee; rw [Nat.zero_add] at q2; have q3 := hown'.frozenAt (i * 2); have HC2 : Hid (m ≤ c2) := Lib.hid (by rcases hown'.2 with ⟨h, _⟩ | ⟨g, cp, cur, h, _, _, h2, _⟩ <;> cases h; exact h2); have HB4 := Lib.hid (HB3.out.trans (((Below.refl wr.heap.size wr).alloc (Nat.le_refl _) (.cells #[] 37)).grown hgrow (by simp) (fun j e => by cases e; exact Nat.le_refl _) |>.mono hs3)); have hg2 := (hown'.lt g2 rfl).1; clear hown' hgrow))
            go_returns
            exact ⟨.inr ⟨by rw [HSw.out, HNo.out], i, _, _, rfl, hi, rfl, HC2.out, HI.out⟩, HB4.out.setCell (by dsimp only; omega) _⟩
    · rw [decide_eq_false hd] at HD
      clear hb hA hL h1 h2 h3 HF HI hcap
      go_enter Tryd.func46, Tryd.ntmps46
      go_wp2_with fail
      refine HV.out.mono ?_
      rintro e w2 ⟨rfl, hb2⟩
      have HB2 := Lib.hid hb2
      clear hb2 HV
      go_wp2_with (go_at_call 50; refine (HD.out _).mono ?_; rintro e w9 ⟨rfl, rfl⟩)
      go_returns
      exact ⟨.inl ⟨by simp [swE, hd], by simp [swE, hd]⟩, HB2.out⟩
end
end Go.Proofs.YtmbjgaeofkikkaaDoor
