/- Taken of the reference. Taken of the program: a map of counts. many and Touched of the reference. -/
import Derived.Test.YtmbjgaeofkikkaaDoorGto
import Derived.Test.YtmbjgaeofkikkaaDoorGut
import Derived.Test.YtmbjgaeofkikkaaDoorGle
import Derived.Maps.OwnOps
namespace Go.Proofs.YtmbjgaeofkikkaaDoor
open Go.RowKit
attribute [local go_sem] After.cell After.frozen After.lt After.le After.ne After.ne' After.set_eq After.size_set After.lt_add tx_size tx_toList

set_option maxRecDepth 100000 in
set_option maxHeartbeats 2000000 in
theorem rmany_any (a : Option Addr) (n cap : Nat) (gm : Nat → List UInt8) (gl gd : Nat → Int) (gb : Nat → List UInt8) (ar : Option Addr) (nr capr : Nat) (R : Nat → Rg) (w : World) (hA : ItAt w a n gm gl gd gb) (hR : RgAt w ar nr R) (hRm : ∀ k, k < nr → (R k).m ≤ 1000) (hn : n ≤ 1000) (hnr : nr ≤ 1000) (h1 : Sht n gm) (h2 : Sht n gb) :
    Calls Tryd.prog 74 #[.slice a n cap, .slice ar nr capr] w fun e w' => e = .returned (.int .i64 (oaE (vgB n gm gl gd gb) n gm R nr)) ∧ Below w.heap.size w w' := by
  have HV := Lib.hid (fun W (hW : Below w.heap.size w W) => rvalid_any a n cap gm gl gd gb W (hA.on hW) hn h1 h2)
  have HO := Lib.hid (fun k (hk : k < nr) W (hW : Below w.heap.size w W) => rvalidRig0_any a n cap gm gl gd gb (R k).a (R k).m (R k).cap (R k).lm (R k).lf W (hA.on hW) (hR.on hW k hk).choose_spec.choose_spec.2.2.2 hn (hRm k hk))
  have HR := Lib.hid hR
  have hrI : (nr : Int) ≤ 1000 := by omega
  clear hA hR hRm hn h1 h2
  cases hv : vgB n gm gl gd gb
  · rw [hv] at HV
    have HE : Hid (oaE false n gm R nr = 1) := Lib.hid rfl
    clear hv HO HR
    go_enter Tryd.func74, Tryd.ntmps74
    go_wp2_with fail
    refine calls_after (HV.out _ (by (repeat' (first | (with_reducible exact Below.refl _ _) | (with_reducible assumption) | (with_reducible refine Below.alloc ?_ ?_ _) | (with_reducible refine Below.drew ?_) | (with_reducible refine below_drewN ?_ _) | (with_reducible refine Below.setCell ?_ ?_ _) | (with_reducible refine below_after ?_ ?_ _) | (with_reducible refine below_set ?_) | (with_reducible refine After.size_le _ ?_) | (with_reducible refine size_alloc_le ?_) | (with_reducible refine size_set_le ?_) | (with_reducible refine size_drewN_le ?_) | go_size)))) ?_
    intro x1
    go_wp2
    go_returns
    exact ⟨by rw [HE.out]; rfl, by (repeat' (first | (with_reducible exact Below.refl _ _) | (with_reducible assumption) | (with_reducible refine Below.alloc ?_ ?_ _) | (with_reducible refine Below.drew ?_) | (with_reducible refine below_drewN ?_ _) | (with_reducible refine Below.setCell ?_ ?_ _) | (with_reducible refine below_after ?_ ?_ _) | (with_reducible refine below_set ?_) | (with_reducible refine After.size_le _ ?_) | (with_reducible refine size_alloc_le ?_) | (with_reducible refine size_set_le ?_) | (with_reducible refine size_drewN_le ?_) | go_size))⟩
  · rw [hv] at HV
    by_cases h50 : (50 : Int) < (nr : Int)
    · have HE : Hid (oaE true n gm R nr = 4) := Lib.hid (by unfold oaE; rw [if_pos rfl, if_pos (by omega)])
      clear hv HO HR
      go_enter Tryd.func74, Tryd.ntmps74
      go_wp2_with fail
      refine calls_after (HV.out _ (by (repeat' (first | (with_reducible exact Below.refl _ _) | (with_reducible assumption) | (with_reducible refine Below.alloc ?_ ?_ _) | (with_reducible refine Below.drew ?_) | (with_reducible refine below_drewN ?_ _) | (with_reducible refine Below.setCell ?_ ?_ _) | (with_reducible refine below_after ?_ ?_ _) | (with_reducible refine below_set ?_) | (with_reducible refine After.size_le _ ?_) | (with_reducible refine size_alloc_le ?_) | (with_reducible refine size_set_le ?_) | (with_reducible refine size_drewN_le ?_) | go_size)))) ?_
      intro x1
      go_wp2
      go_returns
      exact ⟨by rw [HE.out]; rfl, by (repeat' (first | (with_reducible exact Below.refl _ _) | (with_reducible assumption) | (with_reducible refine Below.alloc ?_ ?_ _) | (with_reducible refine Below.drew ?_) | (with_reducible refine below_drewN ?_ _) | (with_reducible refine Below.setCell ?_ ?_ _) | (with_reducible refine below_after ?_ ?_ _) | (with_reducible refine below_set ?_) | (with_reducible refine After.size_le _ ?_) | (with_reducible refine size_alloc_le ?_) | (with_reducible refine size_set_le ?_) | (with_reducible refine size_drewN_le ?_) | go_size))⟩
    · have HE0 : Hid (rgB n gm R nr = true → oaE true n gm R nr = 0) := Lib.hid (fun h => by unfold oaE; rw [if_pos rfl, if_neg (by omega), if_pos h])
      have HE1 : Hid (rgB n gm R nr = false → oaE true n gm R nr = 1) := Lib.hid (fun h => by unfold oaE; rw [if_pos rfl, if_neg (by omega), h]; rfl)
      clear hv
      go_enter Tryd.func74, Tryd.ntmps74
      go_wp2_with fail
      refine (HV.out _ (by (repeat' (first | (with_reducible exact Below.refl _ _) | (with_reducible assumption) | (with_reducible refine Below.alloc ?_ ?_ _) | (with_reducible refine Below.drew ?_) | (with_reducible refine below_drewN ?_ _) | (with_reducible refine Below.setCell ?_ ?_ _) | (with_reducible refine below_after ?_ ?_ _) | (with_reducible refine below_set ?_) | (with_reducible refine After.size_le _ ?_) | (with_reducible refine size_alloc_le ?_) | (with_reducible refine size_set_le ?_) | (with_reducible refine size_drewN_le ?_) | go_size)))).mono ?_
      rintro e w2 ⟨rfl, hb2⟩
      have HB2 := Lib.hid hb2
      clear hb2 HV
      go_wp2
      go_loopw [5] (fun i W => ∃ k : Nat, k ≤ nr ∧ i = .int .i64 k ∧ Hid (rgB n gm R k = true) ∧ Hid (Below w2.heap.size w2 W)) (fun i _ => nr - (intOf i).toNat)
      case atStart => exact ⟨0, Nat.zero_le _, rfl, Lib.hid rfl, Lib.hid (Below.refl _ _)⟩
      case round =>
        obtain ⟨k, hk, rfl, HG, HB⟩ := hrel
        have HB3 := Lib.hid (HB2.out.trans (HB.out.mono HB2.out.size))
        by_cases hlt : k < nr
        · have hlti : (k : Int) < (nr : Int) := by omega
          obtain ⟨b, off, rfl, hb, c0, _⟩ := (HR.out.on HB3.out) k hlt
          have HOk := Lib.hid (HO.out k hlt _ HB3.out)
          have HNot : Hid (vrB n (R k).m gm (R k).lm (R k).lf = false → rgB n gm R nr = false) := Lib.hid (fun h => rgB_not h nr hlt)
          have HYes : Hid (vrB n (R k).m gm (R k).lm (R k).lf = true → rgB n gm R (k + 1) = true) := Lib.hid (fun h => by unfold rgB; rw [HG.out, h]; rfl)
          cases hvr : vrB n (R k).m gm (R k).lm (R k).lf
          · rw [hvr] at HOk
            have HE := Lib.hid (HE1.out (HNot.out hvr))
            clear hvr HNot HYes HE0 HE1
            go_wp2_with fail
            refine HOk.out.mono ?_
            rintro e w3 ⟨rfl, hb3⟩
            have HBf := Lib.hid (HB3.out.trans (hb3.mono HB3.out.size))
            clear hb3 HOk
            go_wp2
            go_returns
            exact ⟨by rw [HE.out]; rfl, HBf.out⟩
          · rw [hvr] at HOk
            have HG1 := Lib.hid (HYes.out hvr)
            clear hvr HNot HYes
            go_wp2_with fail
            refine HOk.out.mono ?_
            rintro e w3 ⟨rfl, hb3⟩
            have HB4 := Lib.hid (HB.out.trans (hb3.mono HB.out.size))
            clear hb3 HOk
            go_wp2
            go_roundw
            case rel => exact ⟨k + 1, by omega, by go_num, HG1, HB4⟩
            case measure => simp [intOf]; omega
        · obtain rfl : k = nr := by omega
          have HE := Lib.hid (HE0.out HG.out)
          go_wp2
          go_returns
          exact ⟨by rw [HE.out]; rfl, HB3.out⟩
theorem toB_succ (g : Nat → List UInt8) (k : Nat) (m : List UInt8) : (fdN g (k + 1) m).isSome = ((fdN g k m).isSome || decide (g k = m)) := by
  cases h : fdN g k m with
  | some i =>
    obtain ⟨h1, h2, h3⟩ := fdN_some.1 h
    rw [fdN_some.2 ⟨by omega, h2, h3⟩]
    rfl
  | none =>
    have h0 := fdN_none.1 h
    by_cases e : g k = m
    · rw [fdN_some.2 ⟨Nat.lt_succ_self k, e, h0⟩, decide_eq_true e]; rfl
    · rw [fdN_none.2 (fun j hj => by
        by_cases e2 : j = k
        · subst e2; exact e
        · exact h0 j (by omega)), decide_eq_false e]; rfl
set_option maxRecDepth 100000 in
set_option maxHeartbeats 4000000 in
theorem rtouched_say (a : Option Addr) (n cap : Nat) (gm : Nat → List UInt8) (gl gd : Nat → Int) (gb : Nat → List UInt8) (ar : Option Addr) (nr capr : Nat) (R : Nat → Rg) (bt : List UInt8) (w : World) (hA : ItAt w a n gm gl gd gb) (hR : RgAt w ar nr R) (hRm : ∀ k, k < nr → (R k).m ≤ 1000) (hn : n ≤ 1000) (hnr : nr ≤ 1000) (h1 : Sht n gm) (h2 : Sht n gb) :
    Calls Tryd.prog 41 #[.slice a n cap, .slice ar nr capr, .string (tx bt)] w fun e w' => ToA (oaE (vgB n gm gl gd gb) n gm R nr) (thN (fun i => toB n gm gb bt (R i)) nr) w' e ∧ Below w.heap.size w w' := by
  have HO := Lib.hid (fun W (hW : Below w.heap.size w W) => rmany_any a n cap gm gl gd gb ar nr capr R W (hA.on hW) (hR.on hW) hRm hn hnr h1 h2)
  have HF := Lib.hid (fun x W (hW : Below w.heap.size w W) => rfind_any a n cap gm gl gd gb x W (hA.on hW) (by omega))
  have HM := Lib.hid hRm
  have HA := Lib.hid hA
  have HR := Lib.hid hR
  have hnI : (n : Int) ≤ 1000 := by omega
  have hrI : (nr : Int) ≤ 1000 := by omega
  have HIx : Hid (oaE (vgB n gm gl gd gb) n gm R nr = 0 → ∀ k, k < nr → ∀ i, i < (R k).m → fdI gm n ((R k).lm i) = ((ixO n gm (R k).lm i : Nat) : Int) ∧ ixO n gm (R k).lm i < n) := Lib.hid (fun h k hk i hi => by
    unfold oaE at h
    split at h
    · next hv =>
      split at h
      · omega
      · split at h
        · next hg =>
          exact ix_of (by rw [hv, rgB_of nr hg k hk]; rfl) hi
        · omega
    · omega)
  clear hA hR hRm h1 h2 hn
  generalize hc : oaE (vgB n gm gl gd gb) n gm R nr = c at *
  clear hc
  by_cases h0 : c = 0
  · subst h0
    have HIy := Lib.hid (HIx.out rfl)
    clear HIx
    obtain ⟨i0, hi0, hz0, hz1, hz2⟩ := info_parts intInfo7
    go_enter Tryd.func41, Tryd.ntmps41
    go_wp2_with fail
    refine (HO.out _ (by (repeat' (first | (with_reducible exact Below.refl _ _) | (with_reducible assumption) | (with_reducible refine Below.alloc ?_ ?_ _) | (with_reducible refine Below.drew ?_) | (with_reducible refine below_drewN ?_ _) | (with_reducible refine Below.setCell ?_ ?_ _) | (with_reducible refine below_after ?_ ?_ _) | (with_reducible refine below_set ?_) | (with_reducible refine After.size_le _ ?_) | (with_reducible refine size_alloc_le ?_) | (with_reducible refine size_set_le ?_) | (with_reducible refine size_drewN_le ?_) | go_size)))).mono ?_
    rintro e w2 ⟨rfl, hb2⟩
    have HB2 := Lib.hid hb2
    clear hb2 HO
    go_wp2
    go_loopw [9, 10] (fun v i W => ∃ k : Nat, k ≤ nr ∧ i = .int .i64 k ∧ Hid (W.ownsRow w2.heap.size 3 1 v (thN (fun i => toB n gm gb bt (R i)) k).length (ivs (thN (fun i => toB n gm gb bt (R i)) k))) ∧ Hid (Below w2.heap.size w2 W)) (fun _ i _ => nr - (intOf i).toNat)
    case atStart => exact ⟨0, Nat.zero_le _, rfl, Lib.hid (World.ownsRow_nil _ _ _ _), Lib.hid (Below.refl _ _)⟩
    case round =>
      obtain ⟨k, hk, rfl, HOw, HB⟩ := hrel
      have HB3 := Lib.hid (HB2.out.trans (HB.out.mono HB2.out.size))
      by_cases hlt : k < nr
      · have hlti : (k : Int) < (nr : Int) := by omega
        obtain ⟨b, off, rfl, hb, c0, hLk⟩ := (HR.out.on HB3.out) k hlt
        have HLen := Lib.hid (thN_len (fun i => toB n gm gb bt (R i)) k)
        have HS : Hid (thN (fun i => toB n gm gb bt (R i)) (k + 1) = if (fdN (fun i => gb (ixO n gm (R k).lm i)) (R k).m bt).isSome then thN (fun i => toB n gm gb bt (R i)) k ++ [k] else thN (fun i => toB n gm gb bt (R i)) k) := Lib.hid (by rw [thN_succ]; rfl)
        have HIk := Lib.hid (HIy.out k hlt)
        have hmk := HM.out k hlt
        generalize thN (fun i => toB n gm gb bt (R i)) k = T at *
        generalize R k = r at *
        have HLk := Lib.hid hLk
        have hmI : (r.m : Int) ≤ 1000 := by omega
        clear hLk HIy hmk
        go_wp2
        go_loopw [11, 12] (fun t j W => ∃ q : Nat, q ≤ r.m ∧ j = .int .i64 q ∧ t = .bool ((fdN (fun i => gb (ixO n gm r.lm i)) q bt).isSome) ∧ Hid (Below wr.heap.size wr W)) (fun _ j _ => r.m - (intOf j).toNat)
        case atStart => exact ⟨0, Nat.zero_le _, rfl, rfl, Lib.hid (Below.refl _ _)⟩
        case round =>
          obtain ⟨q, hq, rfl, rfl, HBi⟩ := hrel
          have HB4 := Lib.hid (HB3.out.trans (HBi.out.mono HB3.out.size))
          have c0 := (HBi.out.cell (p := ⟨b, off + k, none⟩) (World.block_lt_of_cell? _ _ c0)).trans c0
          have HT := Lib.hid (toB_succ (fun i => gb (ixO n gm r.lm i)) q bt)
          by_cases hqm : q < r.m
          · have hqI : (q : Int) < (r.m : Int) := by omega
            cases hs : (fdN (fun i => gb (ixO n gm r.lm i)) q bt).isSome
            · rw [hs] at HT
              clear hs
              obtain ⟨hix, hixn⟩ := HIk.out q hqm
              obtain ⟨bl, offl, hra, hbl, l0, l1⟩ := (HLk.out.on HBi.out) q hqm
              rw [hra] at c0
              have HFk := Lib.hid (HF.out (r.lm q) _ HB4.out)
              rw [hix] at HFk
              have hixI : ((ixO n gm r.lm q : Nat) : Int) < (n : Int) := by omega
              clear hix hra
              generalize ixO n gm r.lm q = ix at *
              go_wp2_with fail
              refine HFk.out.mono ?_
              rintro e w3 ⟨rfl, hb3⟩
              have hB5 := HB4.out.trans (hb3.mono HB4.out.size)
              obtain ⟨ba, offa, rfl, hba, p0, p1, p2, p3⟩ := (HA.out.on hB5) ix hixn
              have HB6 := Lib.hid (HBi.out.trans (hb3.mono HBi.out.size))
              clear hb3 HFk p0 p1 p2 hB5
              by_cases e : gb ix = bt
              · have he : (gb ix == bt) = true := by simp [e]
                rw [decide_eq_true e] at HT
                clear e
                go_wp2
                go_roundw
                case rel => exact ⟨q + 1, by omega, by go_num, by rw [HT.out]; rfl, HB6⟩
                case measure => simp [intOf]; omega
              · have he : (gb ix == bt) = false := by simp [e]
                rw [decide_eq_false e] at HT
                clear e
                go_wp2
                go_roundw
                case rel => exact ⟨q + 1, by omega, by go_num, by rw [HT.out]; rfl, HB6⟩
                case measure => simp [intOf]; omega
            · rw [hs] at HT
              clear hs
              go_wp2
              go_roundw
              case rel => exact ⟨q + 1, by omega, by go_num, by rw [HT.out]; rfl, HBi⟩
              case measure => simp [intOf]; omega
          · obtain rfl : q = r.m := by omega
            have HBw := Lib.hid (HB.out.trans (HBi.out.mono HB.out.size))
            have HOi := Lib.hid (ownsR_stay HOw.out HBi.out)
            cases hs : (fdN (fun i => gb (ixO n gm r.lm i)) r.m bt).isSome
            · rw [hs] at HS
              clear hs
              go_wp2
              go_roundw
              case rel => exact ⟨k + 1, by omega, by go_num, by rw [HS.out]; exact HOi, HBw⟩
              case measure => simp [intOf]; omega
            · rw [hs, if_pos rfl] at HS
              clear hs
              go_wp2_with (at_builtin; refine wpList_append_own _ rfl _ _ 30 rfl w2.heap.size 3 i0 (.int .i64 0) 1 8 Tryd.underlying30 hi0 hz0 hz1 hz2 rfl (by decide) _ _ _ rfl (HOi.out.alloc _) ⟨wr.heap.size, 0, none⟩ 1 1 [.int .i64 (k : Nat)] rfl rfl (World.news_of_block (cs := #[.int .i64 (k : Nat)]) (t := 3) (fr := (0, 0)) (heap_alloc_new wr _)) (by simp [Value.oneCell']) (by unfold maxLen; have := HLen.out; omega) (by have := HLen.out; omega) (by have := HBw.out.size; simp; omega) ?_; intro v' w8 hown' hgrow _)
              have HB8 := Lib.hid ((HBw.out.alloc HBw.out.size (.cells #[.int .i64 (k : Nat)] 3)).grown hgrow (by have := HBw.out.size; simp; omega) (fun j e => (HOi.out.lt j e).1))
              have HO8 := Lib.hid hown'
              clear hown' hgrow
              go_wp2
              go_roundw
              case rel => exact ⟨k + 1, by omega, by go_num, by rw [HS.out, ivs_snoc, List.length_append]; exact HO8, HB8⟩
              case measure => simp [intOf]; omega
      · obtain rfl : k = nr := by omega
        have HN := Lib.hid (nat_of HOw.out)
        go_wp2
        go_returns
        exact ⟨.inr ⟨rfl, _, rfl, HN.out⟩, HB3.out⟩
  · have hne : (c != 0) = true := by simp [h0]
    have HC := Lib.hid h0
    clear h0 HIx
    go_enter Tryd.func41, Tryd.ntmps41
    go_wp2_with fail
    refine (HO.out _ (by (repeat' (first | (with_reducible exact Below.refl _ _) | (with_reducible assumption) | (with_reducible refine Below.alloc ?_ ?_ _) | (with_reducible refine Below.drew ?_) | (with_reducible refine below_drewN ?_ _) | (with_reducible refine Below.setCell ?_ ?_ _) | (with_reducible refine below_after ?_ ?_ _) | (with_reducible refine below_set ?_) | (with_reducible refine After.size_le _ ?_) | (with_reducible refine size_alloc_le ?_) | (with_reducible refine size_set_le ?_) | (with_reducible refine size_drewN_le ?_) | go_size)))).mono ?_
    rintro e w2 ⟨rfl, hb2⟩
    have HB2 := Lib.hid hb2
    clear hb2 HO
    go_wp2
    go_returns
    exact ⟨.inl ⟨HC.out, rfl⟩, HB2.out⟩
end Go.Proofs.YtmbjgaeofkikkaaDoor
namespace Go.Proofs.YtmbjgaeofkikkaaDoor
open Go.RowKit Go.Maps
attribute [local go_sem] After.cell After.frozen After.lt After.le After.ne After.ne' After.set_eq After.size_set After.lt_add tx_size tx_toList

/-- How often a mark stands among the first j. -/
def ckN (lm : Nat → List UInt8) : Nat → List UInt8 → Nat
  | 0, _ => 0
  | j + 1, x => ckN lm j x + if lm j = x then 1 else 0
/-- How often a mark stands in the first k rigs. -/
def crN (R : Nat → Rg) : Nat → List UInt8 → Nat
  | 0, _ => 0
  | k + 1, x => crN R k x + ckN (R k).lm (R k).m x
theorem ckN_le (lm : Nat → List UInt8) (x : List UInt8) : ∀ j, ckN lm j x ≤ j
  | 0 => Nat.le_refl _
  | j + 1 => by
    have := ckN_le lm x j
    unfold ckN
    split <;> omega
theorem crN_le {R : Nat → Rg} (x : List UInt8) : ∀ k, (∀ i, i < k → (R i).m ≤ 1000) → crN R k x ≤ 1000 * k
  | 0, _ => Nat.le_refl _
  | k + 1, h => by
    have h1 := crN_le x k (fun i hi => h i (by omega))
    have h2 := ckN_le (R k).lm x (R k).m
    have h3 := h k (by omega)
    unfold crN
    omega
/-- A map of counts. -/
def Cm (W : World) (B t : Nat) (f : List UInt8 → Nat) : Prop := ∃ D : DataW Unit, W.ownsMap Tryd.prog 9 (plainElem Tryd.prog 3) B t D ∧ IsMap D ∧ ∀ x, D.atKey (.string x) (.lit (.int .i64 0)) = .lit (.int .i64 (f x : Nat))
theorem Cm.mono {W : World} {B t t' : Nat} {f : List UInt8 → Nat} (h : Cm W B t f) (ht : t ≤ t') : Cm W B t' f := by
  obtain ⟨D, h1, h2⟩ := h
  exact ⟨D, h1.mono ht, h2⟩
theorem Cm.on {w W : World} {B t : Nat} {f : List UInt8 → Nat} (h : Cm w B t f) (hb : Below w.heap.size w W) : Cm W B t f := by
  obtain ⟨D, h1, h2⟩ := h
  exact ⟨D, mapOn h1 hb, h2⟩
theorem Cm.congr {W : World} {B t : Nat} {f g : List UInt8 → Nat} (h : Cm W B t f) (e : ∀ x, f x = g x) : Cm W B t g := by
  obtain ⟨D, h1, h2, h3⟩ := h
  exact ⟨D, h1, h2, fun x => by rw [h3 x, e x]⟩
theorem cm_made (w : World) : Cm (w.alloc (.map #[] 0)) w.heap.size 0 (fun _ => 0) := ⟨.map [], World.ownsMap_made _ _ _ _, isMap_empty, fun _ => rfl⟩
theorem cm_put {D : DataW Unit} {f : List UInt8 → Nat} (hD : IsMap D) (hf : ∀ x, D.atKey (.string x) (.lit (.int .i64 0)) = .lit (.int .i64 (f x : Nat))) (m : List UInt8) (x : List UInt8) :
    (D.put (.string m) (.lit (.int .i64 ((f m : Nat) + 1)))).atKey (.string x) (.lit (.int .i64 0)) = .lit (.int .i64 ((f x + if m = x then 1 else 0 : Nat) : Int)) := by
  by_cases e : m = x
  · subst e
    rw [atKey_put_same hD (show WideAt.IsKeyLit (.string m) from trivial), if_pos rfl]
    simp
  · rw [atKey_put_other (fun h => e (by simpa using h.symm)), hf x, if_neg e]
    simp
theorem run_makeMap_0 (w : World) : (Instr.makeMap 63 none).run Tryd.prog w = .ok (.map (some w.heap.size)) (w.alloc (.map #[] 0)) := by
  simp [Instr.makeMap, Result.andThen]
/-- Items that stand in more than one rig. -/
def tkB (gm : Nat → List UInt8) (R : Nat → Rg) (nr i : Nat) : Bool := decide (1 < (crN R nr (gm i) : Int))
set_option maxRecDepth 100000 in
set_option maxHeartbeats 2000000 in
theorem taken1_any (C D Bm t : Nat) (a : Option Addr) (n cap : Nat) (gm : Nat → List UInt8) (gl gd : Nat → Int) (gb : Nat → List UInt8) (R : Nat → Rg) (nr i : Nat) (w : World) (hC : w.cell? ⟨C, 0, none⟩ = some (.map (some Bm))) (hD : w.cell? ⟨D, 0, none⟩ = some (.slice a n cap)) (hA : ItAt w a n gm gl gd gb) (hM : Cm w Bm t (crN R nr)) (hi : i < n) (hn : n ≤ 1000) (h1 : Sht n gm) :
    Calls Tryd.prog 73 #[.int .i64 (i : Nat), .pointer (some ⟨C, 0, none⟩), .pointer (some ⟨D, 0, none⟩)] w fun e w' => e = .returned (.bool (tkB gm R nr i)) ∧ Below w.heap.size w w' := by
  have hnI : (n : Int) ≤ 1000 := by omega
  have hiI : (i : Int) < (n : Int) := by omega
  obtain ⟨b, off, rfl, hb, c0, _, _, _⟩ := hA i hi
  have hkey := key_tx (h1 i hi)
  obtain ⟨Dd, hOw, hIM, hat⟩ := hM
  have HAt := Lib.hid (hat (gm i))
  have s0 := World.block_lt_of_cell? w _ hC
  have s1 := World.block_lt_of_cell? w _ hD
  have hB := Below.refl w.heap.size w
  dsimp only at s0 s1
  unfold tkB
  clear hA h1 hIM hat
  generalize gm i = mk at *
  have hrun : ∀ x : After w, (Instr.lookup 63 (.map (some Bm)) (.string (tx mk)) false).run Tryd.prog x.w = .ok (.int .i64 ((crN R nr mk : Nat) : Int)) x.w := fun x => by
    obtain ⟨c, h1, h2, _⟩ := (mapOn hOw x.out).lookup_int lawS Tryd.underlying63 Tryd.underlying3 (zeroE _) hkey
    obtain rfl : ((crN R nr mk : Nat) : Int) = c := by rw [HAt.out] at h2; simpa using h2
    exact h1
  clear hOw hkey HAt
  generalize crN R nr mk = c at *
  go_enter Tryd.func73, Tryd.ntmps73
  go_wp2_with fail
  refine wp_region_after (by kernel_rfl) (by kernel_rfl) ?_; (repeat (first | go_big_quiet_step ((fail)) | (refine wpQuiet_step (fun K hK => ?_); go_simp; first | (refine hK _ ?_; clear hK K) | (apply Exists.intro; refine ⟨fun x => ?_, hK _ ?_⟩; (fail); clear hK K)))); refine wpQuiet_nil ?_
  intro y
  go_wp2
  go_ret
  exact ⟨rfl, by (repeat' (first | (with_reducible exact Below.refl _ _) | (with_reducible assumption) | (with_reducible refine Below.alloc ?_ ?_ _) | (with_reducible refine Below.drew ?_) | (with_reducible refine below_drewN ?_ _) | (with_reducible refine Below.setCell ?_ ?_ _) | (with_reducible refine below_after ?_ ?_ _) | (with_reducible refine below_set ?_) | (with_reducible refine After.size_le _ ?_) | (with_reducible refine size_alloc_le ?_) | (with_reducible refine size_set_le ?_) | (with_reducible refine size_drewN_le ?_) | go_size))⟩
set_option maxRecDepth 100000 in
set_option maxHeartbeats 4000000 in
theorem taken_say (a : Option Addr) (n cap : Nat) (gm : Nat → List UInt8) (gl gd : Nat → Int) (gb : Nat → List UInt8) (ar : Option Addr) (nr capr : Nat) (R : Nat → Rg) (w : World) (hA : ItAt w a n gm gl gd gb) (hR : RgAt w ar nr R) (hRo : RgOk nr R) (hRm : ∀ k, k < nr → (R k).m ≤ 1000) (hn : n ≤ 1000) (hnr : nr ≤ 1000) (h1 : Sht n gm) (h2 : Sht n gb) :
    Calls Tryd.prog 38 #[.slice a n cap, .slice ar nr capr] w fun e w' => ToA (oaE (vgB n gm gl gd gb) n gm R nr) (thN (tkB gm R nr) n) w' e ∧ Below w.heap.size w w' := by
  have HO := Lib.hid (fun W (hW : Below w.heap.size w W) => openAll_any a n cap gm gl gd gb ar nr capr R W (hA.on hW) (hR.on hW) hRo hRm hn hnr h1 h2)
  have HM := Lib.hid hRm
  have HRo := Lib.hid hRo
  have HA := Lib.hid hA
  have HR := Lib.hid hR
  have Hg := Lib.hid (And.intro hn h1)
  have hrI : (nr : Int) ≤ 1000 := by omega
  have hnI : (n : Int) ≤ 1000 := by omega
  have hmm := run_makeMap_0
  clear hA hR hRo hRm h1 h2 hn
  generalize oaE (vgB n gm gl gd gb) n gm R nr = c at *
  go_enter Tryd.func38, Tryd.ntmps38
  go_wp2_with fail
  refine (HO.out _ (by (repeat' (first | (with_reducible exact Below.refl _ _) | (with_reducible assumption) | (with_reducible refine Below.alloc ?_ ?_ _) | (with_reducible refine Below.drew ?_) | (with_reducible refine below_drewN ?_ _) | (with_reducible refine Below.setCell ?_ ?_ _) | (with_reducible refine below_after ?_ ?_ _) | (with_reducible refine below_set ?_) | (with_reducible refine After.size_le _ ?_) | (with_reducible refine size_alloc_le ?_) | (with_reducible refine size_set_le ?_) | (with_reducible refine size_drewN_le ?_) | go_size)))).mono ?_
  rintro e w2 ⟨hr, hb2⟩
  have hs := hb2.size
  simp at hs
  have cb : w2.cell? ⟨w.heap.size, 0, none⟩ = some (.slice a n cap) := (hb2.cell (p := ⟨w.heap.size, 0, none⟩) (by simp)).trans (by simp [go_sem])
  have HB2 := Lib.hid (((Below.refl _ w).alloc (Nat.le_refl _) (.cells #[.slice a n cap] 22)).trans (hb2.mono (by simp)))
  clear hb2 HO
  rcases hr with ⟨hc, rfl⟩ | ⟨rfl, v, BQ, Q, hql, rfl, hQ, hI⟩
  · have hne : (c != 0) = true := by simp [hc]
    have HC := Lib.hid hc
    clear hc
    go_wp2
    go_returns
    exact ⟨.inl ⟨HC.out, rfl⟩, HB2.out⟩
  · obtain ⟨av, cv, rfl⟩ := ownsR_shape hQ
    have HQ := Lib.hid hQ
    have HI := Lib.hid hI
    have HQl := Lib.hid hql
    clear hQ hI hql
    have hs2 := HB2.out.size
    obtain ⟨W4, hW4⟩ : ∃ W4, (w2.alloc (.map #[] 0)).alloc (.cells #[.map (some w2.heap.size)] 63) = W4 := ⟨_, rfl⟩
    have b24 : Below w2.heap.size w2 W4 := by rw [← hW4]; (repeat' (first | (with_reducible exact Below.refl _ _) | (with_reducible assumption) | (with_reducible refine Below.alloc ?_ ?_ _) | (with_reducible refine Below.drew ?_) | (with_reducible refine below_drewN ?_ _) | (with_reducible refine Below.setCell ?_ ?_ _) | (with_reducible refine below_after ?_ ?_ _) | (with_reducible refine below_set ?_) | (with_reducible refine After.size_le _ ?_) | (with_reducible refine size_alloc_le ?_) | (with_reducible refine size_set_le ?_) | (with_reducible refine size_drewN_le ?_) | go_size))
    have hs4 : W4.heap.size = w2.heap.size + 2 := by rw [← hW4]; simp
    have m4 : W4.cell? ⟨w2.heap.size + 1, 0, none⟩ = some (.map (some w2.heap.size)) := by rw [← hW4]; simp [go_sem]
    have HC4 : Hid (Cm W4 w2.heap.size (1000 * 0) (crN R 0)) := Lib.hid (by
      rw [← hW4]
      exact ((cm_made w2).on ((Below.refl _ _).alloc (Nat.le_refl _) _)).congr (fun x => rfl))
    have HB4 := Lib.hid (HB2.out.trans (b24.mono hs2))
    have Hb := Lib.hid b24
    have HS4 := Lib.hid hs4
    have cb4 := (b24.cell (p := ⟨w.heap.size, 0, none⟩) (World.block_lt_of_cell? _ _ cb)).trans cb
    go_wp2
    clear hW4 b24 HB2 cb hs4
    go_loopw [25] (fun i W => ∃ k : Nat, k ≤ nr ∧ i = .int .i64 k ∧ Hid (Cm W w2.heap.size (1000 * k) (crN R k)) ∧ Hid (Fr (fun j => j = w2.heap.size) W4 W)) (fun i _ => nr - (intOf i).toNat)
    case atStart => exact ⟨0, Nat.zero_le _, rfl, HC4, Lib.hid (Fr.refl _)⟩
    case round =>
      obtain ⟨k, hk, rfl, HC, HF⟩ := hrel
      have HBW := Lib.hid (HB4.out.trans (HF.out.below HB4.out.size (fun j hj => by omega)))
      by_cases hlt : k < nr
      · have hlti : (k : Int) < (nr : Int) := by omega
        obtain ⟨h1, a2, c2, BI, h2, _⟩ := HI.out k hlt
        obtain ⟨g, c', e⟩ := Go.Joins.ownsRow_form HQ.out (by omega)
        cases e
        have hg := (HQ.out.lt g rfl).2
        have e0 := HQ.out.cellAt (k * 2) (by omega)
        have e1 := HQ.out.cellAt (k * 2 + 1) (by omega)
        rw [(rcv_get (Q := Q) (i := k) (by rw [HQl.out]; exact hlt)).1, h1] at e0
        rw [(rcv_get (Q := Q) (i := k) (by rw [HQl.out]; exact hlt)).2, h2] at e1
        have e0 := HF.out.cell (p := ⟨g, k * 2, none⟩) (by dsimp only; omega) ((Hb.out.cell (p := ⟨g, k * 2, none⟩) hg).trans e0)
        have e1 := HF.out.cell (p := ⟨g, k * 2 + 1, none⟩) (by dsimp only; omega) ((Hb.out.cell (p := ⟨g, k * 2 + 1, none⟩) hg).trans e1)
        clear h1 h2
        have hmk := HM.out k hlt
        have HSht := Lib.hid (HRo.out k hlt).2.2
        have HNx : Hid (∀ x, crN R (k + 1) x = crN R k x + ckN (R k).lm (R k).m x) := Lib.hid (fun x => rfl)
        have HLe := Lib.hid (fun x => crN_le (R := R) x k (fun i hi => HM.out i (by omega)))
        have HLk := Lib.hid (HR.out k hlt).choose_spec.choose_spec.2.2.2
        generalize crN R k = f at *
        generalize R k = r at *
        generalize r.a = ra at *
        generalize r.m = rm at *
        generalize r.cap = rc at *
        generalize r.lm = rlm at *
        generalize r.lf = rlf at *
        have hmI : (rm : Int) ≤ 1000 := by omega
        have HC1 : Hid (Cm (wr.alloc (.cells #[.slice ra rm rc, .slice a2 rm c2] 70)) w2.heap.size (1000 * k + 0) (fun x => f x + ckN rlm 0 x)) := Lib.hid ((HC.out.on ((Below.refl _ wr).alloc (Nat.le_refl _) _)).congr (fun x => by simp [ckN]))
        have HF1 := Lib.hid (HF.out.alloc (.cells #[.slice ra rm rc, .slice a2 rm c2] 70))
        clear HC HF HBW
        go_wp2
        clear HC4 e0 e1
        go_loopw [32] (fun i W => ∃ q : Nat, q ≤ rm ∧ i = .int .i64 q ∧ Hid (Cm W w2.heap.size (1000 * k + q) (fun x => f x + ckN rlm q x)) ∧ Hid (Fr (fun j => j = w2.heap.size) W4 W)) (fun i _ => rm - (intOf i).toNat)
        case atStart => exact ⟨0, Nat.zero_le _, rfl, HC1, HF1⟩
        case round =>
          obtain ⟨q, hq, rfl, HC, HF⟩ := hrel
          have HBW := Lib.hid (HB4.out.trans (HF.out.below HB4.out.size (fun j hj => by omega)))
          by_cases hqm : q < rm
          · have hqI : (q : Int) < (rm : Int) := by omega
            obtain ⟨bl, offl, rfl, hbl, l0, l1⟩ := (HLk.out.on HBW.out) q hqm
            obtain ⟨D, hOw, hIM, hat0⟩ := HC.out
            have hkey := key_tx (HSht.out q hqm)
            have HOa := Lib.hid (hOw.alloc (.cells #[.string (tx (rlm q)), .int .i64 (rlf q)] 37))
            have HAt : Hid (D.atKey (.string (rlm q)) (.lit (.int .i64 0)) = .lit (.int .i64 ((f (rlm q) + ckN rlm q (rlm q) : Nat) : Int))) := Lib.hid (hat0 (rlm q))
            have HPut := Lib.hid (fun x => cm_put hIM hat0 (rlm q) x)
            have HIM := Lib.hid (hIM.put (.string (rlm q)) (.lit (.int .i64 (((f (rlm q) + ckN rlm q (rlm q) : Nat) : Int) + 1))))
            have HFa := Lib.hid (HF.out.alloc (.cells #[.string (tx (rlm q)), .int .i64 (rlf q)] 37))
            have hfl := HLe.out (rlm q)
            have hcl := ckN_le rlm (rlm q) q
            have mW := HF.out.cell (p := ⟨w2.heap.size + 1, 0, none⟩) (by dsimp only; omega) m4
            have hcb : ((f (rlm q) + ckN rlm q (rlm q) : Nat) : Int) ≤ 2000000 := by omega
            have hsW : w2.heap.size + 1 < wr.heap.size := by have := HF.out.size; have := HS4.out; omega
            clear hOw hIM hat0 HC HF
            generalize hcc : f (rlm q) + ckN rlm q (rlm q) = cc at *
            clear hcc hfl hcl
            go_wp2_with (first
              | (at_lookup; refine wpList_lookup_own_int _ rfl _ _ 63 rfl 9 3 .i64 lawS Tryd.underlying63 Tryd.underlying3 (zeroE _) w2.heap.size (1000 * k + q) _ rfl HOa.out _ _ rfl hkey ?_; intro c hat hwc; (obtain rfl : ((cc : Nat) : Int) = c := (by rw [HAt.out] at hat; simpa using hat)); clear hat hwc)
              | (at_mapUpdate; refine wpList_mapUpdate_own _ rfl _ _ _ 63 rfl 9 3 lawS Tryd.underlying63 _ w2.heap.size (1000 * k + q) _ rfl HOa.out (by unfold maxLen; omega) _ _ _ rfl rfl hkey _ [] (plainElem_int Tryd.underlying3 (WalkArith.wf_i64 (by omega))) ?_; intro w1 hown1 hgrow1))
            have HFe := Lib.hid (HFa.out.grown hgrow1 (fun j e => by cases e; exact .inl rfl))
            have HCe : Hid (Cm w1 w2.heap.size (1000 * k + (q + 1)) (fun x => f x + ckN rlm (q + 1) x)) := Lib.hid ⟨_, hown1, HIM.out, fun x => by rw [HPut.out x, Nat.add_assoc]; rfl⟩
            clear hown1 hgrow1
            go_roundw
            case rel => exact ⟨q + 1, by omega, by go_num, HCe, HFe⟩
            case measure => simp [intOf]; omega
          · obtain rfl : q = rm := by omega
            have HCe : Hid (Cm wr w2.heap.size (1000 * (k + 1)) (crN R (k + 1))) := Lib.hid ((HC.out.mono (by omega)).congr (fun x => (HNx.out x).symm))
            go_wp2
            go_roundw
            case rel => exact ⟨k + 1, by omega, by go_num, HCe, HF⟩
            case measure => simp [intOf]; omega
      · obtain rfl : k = nr := by omega
        have cbW := HF.out.cell (p := ⟨w.heap.size, 0, none⟩) (by dsimp only; omega) cb4
        have mW := HF.out.cell (p := ⟨w2.heap.size + 1, 0, none⟩) (by dsimp only; omega) m4
        have HTh := Lib.hid (those_any 73 #[] #[.pointer (some ⟨w2.heap.size + 1, 0, none⟩), .pointer (some ⟨w.heap.size, 0, none⟩)] (enters_of Tryd.func73 (by kernel_rfl) rfl) n (tkB gm R k) wr (by omega) (fun i hi W hW => by
          have on : ∀ {p : Addr} {v : Value}, wr.cell? p = some v → W.cell? p = some v := fun {p v} h => (hW.cell (p := p) (World.block_lt_of_cell? _ _ h)).trans h
          exact taken1_any (w2.heap.size + 1) w.heap.size w2.heap.size (1000 * k) a n cap gm gl gd gb R k i W (on mW) (on cbW) ((HA.out.on HBW.out).on hW) (HC.out.on hW) hi Hg.out.1 Hg.out.2))
        go_wp2_with fail
        refine HTh.out.mono ?_
        rintro e w6 ⟨v, rfl, hO6, hb6⟩
        have HN := Lib.hid (nat_of hO6)
        have HB6 := Lib.hid (HBW.out.trans (hb6.mono HBW.out.size))
        clear hO6 hb6 HTh
        go_wp2
        go_returns
        exact ⟨.inr ⟨rfl, _, rfl, HN.out⟩, HB6.out⟩
end Go.Proofs.YtmbjgaeofkikkaaDoor
namespace Go.Proofs.YtmbjgaeofkikkaaDoor
open Go.RowKit
attribute [local go_sem] After.cell After.frozen After.lt After.le After.ne After.ne' After.set_eq After.size_set After.lt_add tx_size tx_toList

set_option maxRecDepth 100000 in
set_option maxHeartbeats 4000000 in
theorem rtaken_say (a : Option Addr) (n cap : Nat) (gm : Nat → List UInt8) (gl gd : Nat → Int) (gb : Nat → List UInt8) (ar : Option Addr) (nr capr : Nat) (R : Nat → Rg) (w : World) (hA : ItAt w a n gm gl gd gb) (hR : RgAt w ar nr R) (hRm : ∀ k, k < nr → (R k).m ≤ 1000) (hn : n ≤ 1000) (hnr : nr ≤ 1000) (h1 : Sht n gm) (h2 : Sht n gb) :
    Calls Tryd.prog 39 #[.slice a n cap, .slice ar nr capr] w fun e w' => ToA (oaE (vgB n gm gl gd gb) n gm R nr) (thN (tkB gm R nr) n) w' e ∧ Below w.heap.size w w' := by
  have HO := Lib.hid (fun W (hW : Below w.heap.size w W) => rmany_any a n cap gm gl gd gb ar nr capr R W (hA.on hW) (hR.on hW) hRm hn hnr h1 h2)
  have HM := Lib.hid hRm
  have HA := Lib.hid hA
  have HR := Lib.hid hR
  have hnI : (n : Int) ≤ 1000 := by omega
  have hrI : (nr : Int) ≤ 1000 := by omega
  clear hA hR hRm h1 h2 hn
  generalize oaE (vgB n gm gl gd gb) n gm R nr = c at *
  by_cases h0 : c = 0
  · subst h0
    obtain ⟨i0, hi0, hz0, hz1, hz2⟩ := info_parts intInfo7
    go_enter Tryd.func39, Tryd.ntmps39
    go_wp2_with fail
    refine (HO.out _ (by (repeat' (first | (with_reducible exact Below.refl _ _) | (with_reducible assumption) | (with_reducible refine Below.alloc ?_ ?_ _) | (with_reducible refine Below.drew ?_) | (with_reducible refine below_drewN ?_ _) | (with_reducible refine Below.setCell ?_ ?_ _) | (with_reducible refine below_after ?_ ?_ _) | (with_reducible refine below_set ?_) | (with_reducible refine After.size_le _ ?_) | (with_reducible refine size_alloc_le ?_) | (with_reducible refine size_set_le ?_) | (with_reducible refine size_drewN_le ?_) | go_size)))).mono ?_
    rintro e w2 ⟨rfl, hb2⟩
    have HB2 := Lib.hid hb2
    clear hb2 HO
    go_wp2
    go_loopw [7, 8] (fun v i W => ∃ k : Nat, k ≤ n ∧ i = .int .i64 k ∧ Hid (W.ownsRow w2.heap.size 3 1 v (thN (tkB gm R nr) k).length (ivs (thN (tkB gm R nr) k))) ∧ Hid (Below w2.heap.size w2 W)) (fun _ i _ => n - (intOf i).toNat)
    case atStart => exact ⟨0, Nat.zero_le _, rfl, Lib.hid (World.ownsRow_nil _ _ _ _), Lib.hid (Below.refl _ _)⟩
    case round =>
      obtain ⟨k, hk, rfl, HOw, HB⟩ := hrel
      have HB3 := Lib.hid (HB2.out.trans (HB.out.mono HB2.out.size))
      by_cases hlt : k < n
      · have hlti : (k : Int) < (n : Int) := by omega
        obtain ⟨b, off, rfl, hb, c0, _, _, _⟩ := (HA.out.on HB3.out) k hlt
        have HLen := Lib.hid (thN_len (tkB gm R nr) k)
        have HS : Hid (thN (tkB gm R nr) (k + 1) = if decide (1 < (crN R nr (gm k) : Int)) then thN (tkB gm R nr) k ++ [k] else thN (tkB gm R nr) k) := Lib.hid (by rw [thN_succ]; rfl)
        have HLe := Lib.hid (fun j (hj : j ≤ nr) => crN_le (R := R) (gm k) j (fun i hi => HM.out i (by omega)))
        generalize thN (tkB gm R nr) k = T at *
        generalize gm k = mk at *
        go_wp2
        go_loopw [9, 10] (fun c i W => ∃ q : Nat, q ≤ nr ∧ i = .int .i64 q ∧ c = .int .i64 (crN R q mk : Nat) ∧ Hid (Below wr.heap.size wr W)) (fun _ i _ => nr - (intOf i).toNat)
        case atStart => exact ⟨0, Nat.zero_le _, rfl, rfl, Lib.hid (Below.refl _ _)⟩
        case round =>
          obtain ⟨q, hq, rfl, rfl, HBi⟩ := hrel
          have HB4 := Lib.hid (HB3.out.trans (HBi.out.mono HB3.out.size))
          have c0 := (HBi.out.cell (p := ⟨b, off + k * 4, none⟩) hb).trans c0
          have hb := World.block_lt_of_cell? _ _ c0
          dsimp only at hb
          by_cases hqr : q < nr
          · have hqI : (q : Int) < (nr : Int) := by omega
            obtain ⟨b2, off2, rfl, hb2, d0, hLk⟩ := (HR.out.on HB4.out) q hqr
            have hle := HLe.out q hq
            have hmk := HM.out q hqr
            have HNx : Hid (crN R (q + 1) mk = crN R q mk + ckN (R q).lm (R q).m mk) := Lib.hid rfl
            generalize crN R q mk = f at *
            generalize R q = r at *
            generalize r.a = ra at *
            generalize r.m = rm at *
            generalize r.cap = rc at *
            generalize r.lm = rlm at *
            generalize r.lf = rlf at *
            have HLk := Lib.hid hLk
            have hmI : (rm : Int) ≤ 1000 := by omega
            have hfI : (f : Int) ≤ 1000000 := by omega
            clear hLk hle hmk
            go_wp2
            go_loopw [9, 11] (fun c i W => ∃ j : Nat, j ≤ rm ∧ i = .int .i64 j ∧ c = .int .i64 ((f + ckN rlm j mk : Nat) : Int) ∧ Hid (Below wr.heap.size wr W)) (fun _ i _ => rm - (intOf i).toNat)
            case atStart => exact ⟨0, Nat.zero_le _, rfl, rfl, Lib.hid (Below.refl _ _)⟩
            case round =>
              obtain ⟨j, hj, rfl, rfl, HBj⟩ := hrel
              have c0 := (HBj.out.cell (p := ⟨b, off + k * 4, none⟩) hb).trans c0
              have hb := World.block_lt_of_cell? _ _ c0
              have d0 := (HBj.out.cell (p := ⟨b2, off2 + q, none⟩) hb2).trans d0
              have hb2 := World.block_lt_of_cell? _ _ d0
              dsimp only at hb hb2
              by_cases hjm : j < rm
              · have hjI : (j : Int) < (rm : Int) := by omega
                obtain ⟨b3, off3, rfl, hb3, l0, l1⟩ := (HLk.out.on HBj.out) j hjm
                have hcl := ckN_le rlm mk j
                have HN : Hid (ckN rlm (j + 1) mk = ckN rlm j mk + if rlm j = mk then 1 else 0) := Lib.hid rfl
                generalize ckN rlm j mk = cj at *
                have hcI : ((f + cj : Nat) : Int) ≤ 2000000 := by omega
                clear hcl
                by_cases e : rlm j = mk
                · rw [if_pos e] at HN
                  have he : (rlm j == mk) = true := by simp [e]
                  clear e
                  go_wp2_with fail
                  refine wp_region_after (by kernel_rfl) (by kernel_rfl) ?_; (repeat (first | go_big_quiet_step ((fail)) | (refine wpQuiet_step (fun K hK => ?_); go_simp; first | (refine hK _ ?_; clear hK K) | (apply Exists.intro; refine ⟨fun x => ?_, hK _ ?_⟩; (fail); clear hK K)))); refine wpQuiet_nil ?_
                  intro y
                  have HBy := Lib.hid (HBj.out.trans (y.out.mono HBj.out.size))
                  go_wp2
                  go_roundw
                  case rel => exact ⟨j + 1, by omega, by go_num, by rw [HN.out]; go_num, HBy⟩
                  case measure => simp [intOf]; omega
                · rw [if_neg e] at HN
                  have he : (rlm j == mk) = false := by simp [e]
                  clear e
                  go_wp2_with fail
                  refine wp_region_after (by kernel_rfl) (by kernel_rfl) ?_; (repeat (first | go_big_quiet_step ((fail)) | (refine wpQuiet_step (fun K hK => ?_); go_simp; first | (refine hK _ ?_; clear hK K) | (apply Exists.intro; refine ⟨fun x => ?_, hK _ ?_⟩; (fail); clear hK K)))); refine wpQuiet_nil ?_
                  intro y
                  have HBy := Lib.hid (HBj.out.trans (y.out.mono HBj.out.size))
                  go_wp2
                  go_roundw
                  case rel => exact ⟨j + 1, by omega, by go_num, by rw [HN.out]; rfl, HBy⟩
                  case measure => simp [intOf]; omega
              · obtain rfl : j = rm := by omega
                go_wp2
                go_roundw
                case rel => exact ⟨q + 1, by omega, by go_num, by rw [HNx.out], Lib.hid (HBi.out.trans (HBj.out.mono HBi.out.size))⟩
                case measure => simp [intOf]; omega
          · obtain rfl : q = nr := by omega
            have HBw := Lib.hid (HB.out.trans (HBi.out.mono HB.out.size))
            have HOi := Lib.hid (ownsR_stay HOw.out HBi.out)
            generalize crN R q mk = f at *
            by_cases hd : (1 : Int) < (f : Int)
            · rw [decide_eq_true hd, if_pos rfl] at HS
              go_wp2_with (at_builtin; refine wpList_append_own _ rfl _ _ 30 rfl w2.heap.size 3 i0 (.int .i64 0) 1 8 Tryd.underlying30 hi0 hz0 hz1 hz2 rfl (by decide) _ _ _ rfl (HOi.out.alloc _) ⟨wr.heap.size, 0, none⟩ 1 1 [.int .i64 (k : Nat)] rfl rfl (World.news_of_block (cs := #[.int .i64 (k : Nat)]) (t := 3) (fr := (0, 0)) (heap_alloc_new wr _)) (by simp [Value.oneCell']) (by unfold maxLen; have := HLen.out; omega) (by have := HLen.out; omega) (by have := HBw.out.size; simp; omega) ?_; intro v' w8 hown' hgrow _)
              have HB8 := Lib.hid ((HBw.out.alloc HBw.out.size (.cells #[.int .i64 (k : Nat)] 3)).grown hgrow (by have := HBw.out.size; simp; omega) (fun j e => (HOi.out.lt j e).1))
              have HO8 := Lib.hid hown'
              clear hown' hgrow
              go_wp2
              go_roundw
              case rel => exact ⟨k + 1, by omega, by go_num, by rw [HS.out, ivs_snoc, List.length_append]; exact HO8, HB8⟩
              case measure => simp [intOf]; omega
            · rw [decide_eq_false hd] at HS
              go_wp2
              go_roundw
              case rel => exact ⟨k + 1, by omega, by go_num, by rw [HS.out]; exact HOi, HBw⟩
              case measure => simp [intOf]; omega
      · obtain rfl : k = n := by omega
        have HN := Lib.hid (nat_of HOw.out)
        go_wp2
        go_returns
        exact ⟨.inr ⟨rfl, _, rfl, HN.out⟩, HB3.out⟩
  · have hne : (c != 0) = true := by simp [h0]
    have HC := Lib.hid h0
    clear h0
    go_enter Tryd.func39, Tryd.ntmps39
    go_wp2_with fail
    refine (HO.out _ (by (repeat' (first | (with_reducible exact Below.refl _ _) | (with_reducible assumption) | (with_reducible refine Below.alloc ?_ ?_ _) | (with_reducible refine Below.drew ?_) | (with_reducible refine below_drewN ?_ _) | (with_reducible refine Below.setCell ?_ ?_ _) | (with_reducible refine below_after ?_ ?_ _) | (with_reducible refine below_set ?_) | (with_reducible refine After.size_le _ ?_) | (with_reducible refine size_alloc_le ?_) | (with_reducible refine size_set_le ?_) | (with_reducible refine size_drewN_le ?_) | go_size)))).mono ?_
    rintro e w2 ⟨rfl, hb2⟩
    have HB2 := Lib.hid hb2
    clear hb2 HO
    go_wp2
    go_returns
    exact ⟨.inl ⟨HC.out, rfl⟩, HB2.out⟩
end Go.Proofs.YtmbjgaeofkikkaaDoor
