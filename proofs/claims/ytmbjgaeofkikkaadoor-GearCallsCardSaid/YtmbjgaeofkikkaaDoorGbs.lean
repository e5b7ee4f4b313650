/- P7.2 as mathematics; Borne in both. -/
import Derived.Test.YtmbjgaeofkikkaaDoorGbq
import Derived.Test.YtmbjgaeofkikkaaDoorGvs
namespace Go.Proofs.YtmbjgaeofkikkaaDoor
open Go.RowKit
attribute [local go_sem] After.cell After.frozen After.lt After.le After.ne After.ne' After.set_eq After.size_set After.lt_add tx_size tx_toList

theorem unL_fuel (lf : Nat → Int) (m : Nat) : ∀ (d i : Nat), m - i ≤ d → unL lf m d i = unL lf m (d + 1) i
  | 0, i, h => by
    have e : unL lf m 1 i = unP lf m 0 i m := rfl
    show [] = unL lf m 1 i
    rw [e, unP_start lf m 0 i m (by omega)]
  | d + 1, i, h => by
    have key : ∀ k, k ≤ m → unP lf m d i k = unP lf m (d + 1) i k := by
      intro k
      induction k with
      | zero => intro _; rfl
      | succ k ih =>
        intro hk
        rw [unP_succ, unP_succ, ih (by omega)]
        congr 1
        unfold unF
        by_cases hc : i < k ∧ lf k = (i : Int)
        · rw [if_pos hc, if_pos hc, unL_fuel lf m d k (by omega)]
        · rw [if_neg hc, if_neg hc]
    exact key m (Nat.le_refl m)
theorem unP_sum (lf : Nat → Int) (m d i : Nat) (ow : Nat → Int) : ∀ k, ((unP lf m d i k).map ow).sum = sumN (fun x => ((unF lf (unL lf m d) i x).map ow).sum) k
  | 0 => rfl
  | k + 1 => by
    rw [unP_succ, List.map_append, List.sum_append, unP_sum lf m d i ow k]
    rfl
section
variable {lf : Nat → Int} {m : Nat} (hv : ∀ k, k < m → lf k < k ∧ -1 ≤ lf k)
include hv
/-- A link from which others hang bears what those bear. -/
theorem bo_child {lo : Nat → Int} {n i : Nat} (hn : n ≤ (thN (enB m lf) m).length) (hi : i < m) (hc : ∃ k, k < m ∧ lf k = (i : Int)) :
    boN lf m (owN lo (thN (enB m lf) m) n) i = sumN (fun k => if lf k = (i : Int) then boN lf m (owN lo (thN (enB m lf) m) n) k else 0) m := by
  obtain ⟨c, hc1, hc2⟩ := hc
  have h0 : owN lo (thN (enB m lf) m) n i = 0 := owN_new n hn (fun j hj e => by
    have hmem : i ∈ thN (enB m lf) m := by
      rw [← e, List.getD_eq_getElem?_getD, List.getElem?_eq_getElem (by omega)]
      exact List.getElem_mem _
    unfold thN at hmem
    have := (List.mem_filter.1 hmem).2
    rw [enB_false hc1 hc2] at this
    cases this)
  generalize owN lo (thN (enB m lf) m) n = ow at *
  obtain ⟨d, rfl⟩ : ∃ d, m = d + 1 := ⟨m - 1, by omega⟩
  have e1 : boN lf (d + 1) ow i = ((unP lf (d + 1) d i (d + 1)).map ow).sum := by
    unfold boN
    rw [h0]
    show 0 + ((unP lf (d + 1) d i (d + 1)).map ow).sum = _
    omega
  rw [e1, unP_sum]
  refine sumN_congr _ (fun k hk => ?_)
  have hvk := hv k hk
  unfold unF
  by_cases he : lf k = (i : Int)
  · rw [if_pos he, if_pos ⟨by omega, he⟩, List.map_cons, List.sum_cons, unL_fuel lf (d + 1) d k (by omega)]
    rfl
  · rw [if_neg he, if_neg (fun q => he q.2)]
    rfl
/-- The topmost link is above all. -/
theorem up_zero (hr : ∀ k, k < m → 0 < k → 0 ≤ lf k) : ∀ (n : Nat) (x : Nat), x < n → x < m → 0 ∈ upO lf m (x : Nat)
  | 0, x, h, _ => by omega
  | n + 1, x, h, hx => by
    rw [upO_step hv hx]
    by_cases h0 : x = 0
    · subst h0; simp
    · have h1 := hr x hx (by omega)
      have h2 := hv x hx
      obtain ⟨y, hy⟩ : ∃ y : Nat, lf x = (y : Int) := ⟨(lf x).toNat, by omega⟩
      rw [hy]
      exact List.mem_cons_of_mem _ (up_zero hr n y (by omega) (by omega))
theorem rb_zero (hr : ∀ k, k < m → 0 < k → 0 ≤ lf k) {lo : Nat → Int} {E : List Nat} (hE : ∀ e ∈ E, e < m) : ∀ k, k ≤ E.length → rbN lf m lo E k 0 = sumN lo k
  | 0, _ => rfl
  | k + 1, hk => by
    have he : E.getD k 0 < m := hE _ (by rw [List.getD_eq_getElem?_getD, List.getElem?_eq_getElem (by omega)]; exact List.getElem_mem _)
    unfold rbN sumN
    rw [rb_zero hr hE k (by omega)]
    show sumN lo k + (if 0 ∈ upO lf m (E.getD k 0 : Nat) then lo k else 0) = _
    rw [if_pos (up_zero hv hr m _ he he)]
end
theorem vr_pos {n m : Nat} {gm lm : Nat → List UInt8} {lf : Nat → Int} (h : vrB n m gm lm lf = true) : ∀ k, k < m → 0 < k → 0 ≤ lf k := fun k hk h0 => by
  have h1 := ((vrB_of h).2 k hk).2.1
  unfold mhB at h1
  rw [if_neg (by omega)] at h1
  simp at h1
  exact h1.1
/-- The error of Borne. -/
noncomputable def boE (b : Bool) (n : Nat) (lo : Nat → Int) (K : Nat) : Int := if b then brE n lo K else 1
/-- What Borne answers. -/
def BoA (b : Bool) (m n : Nat) (lf lo : Nat → Int) (c : Int) (W : World) (e : Ending) : Prop :=
  (c ≠ 0 ∧ e = .returned (.tuple #[.slice none 0 0, .int .i64 c])) ∨ (c = 0 ∧ b = true ∧ n = (thN (enB m lf) m).length ∧ LdOk n lo ∧ ∃ a' c', e = .returned (.tuple #[.slice a' m c', .int .i64 0]) ∧ GAt W a' m (boN lf m (owN lo (thN (enB m lf) m) n)))
section
variable (a : Option Addr) (n cap : Nat) (gm : Nat → List UInt8) (gl gd : Nat → Int) (gb : Nat → List UInt8) (al : Option Addr) (m capl : Nat) (lm : Nat → List UInt8) (lf : Nat → Int) (aq : Option Addr) (nq cq : Nat) (lo : Nat → Int) (w : World) (hA : ItAt w a n gm gl gd gb) (hL : LkAt w al m lm lf) (hQ : GAt w aq nq lo) (hn : n ≤ 1000) (hm : m ≤ 1000) (hcap : m ≤ capl) (h1 : Sht n gm) (h2 : Sht n gb) (h3 : Sht m lm) (hnq : nq ≤ 1000)
include hA hL hQ hn hm hcap h1 h2 h3 hnq
set_option maxRecDepth 100000 in
set_option maxHeartbeats 1000000 in
theorem borne_say : Calls Tryd.prog 21 #[.slice a n cap, .slice al m capl, .slice aq nq cq] w fun e w' => BoA (vgB n gm gl gd gb && vrB n m gm lm lf) m nq lf lo (boE (vgB n gm gl gd gb && vrB n m gm lm lf) nq lo (thN (enB m lf) m).length) w' e ∧ Below w.heap.size w w' := by
  have HO := Lib.hid (fun W (hW : Below w.heap.size w W) => open_any a n cap gm gl gd gb al m capl lm lf W (hA.on hW) (hL.on hW) hn hm hcap h1 h2 h3)
  cases hb : vgB n gm gl gd gb && vrB n m gm lm lf
  · rw [hb] at HO
    clear hb hA hL h1 h2 h3 hn hm hcap hQ hnq
    go_enter Tryd.func21, Tryd.ntmps21
    go_wp2_with fail
    refine (HO.out _ (Below.refl _ _)).mono ?_
    rintro e w2 ⟨hr, hb2⟩
    obtain rfl : e = _ := hr
    have HB2 := Lib.hid (hb2.alloc hb2.size (.cells #[.slice none 0 0, .slice none 0 0] 70))
    clear hb2
    go_wp2
    go_returns
    exact ⟨.inl ⟨by simp [boE], rfl⟩, HB2.out⟩
  · have HV2 := Lib.hid (vr_lt (n := n) (m := m) (gm := gm) (lm := lm) (lf := lf) (by simp at hb; exact hb.2))
    have HS := Lib.hid (fun iv W (hW : Below w.heap.size w W) => borne_any al m capl lm lf iv aq nq cq lo W (hL.on hW) (hQ.on hW) hm (m_of hb) HV2.out hnq)
    have HE : Hid (boE true nq lo (thN (enB m lf) m).length = brE nq lo (thN (enB m lf) m).length) := Lib.hid rfl
    rw [hb] at HO
    clear hb hA hL h1 h2 h3 hn hm hcap HV2 hQ hnq
    go_enter Tryd.func21, Tryd.ntmps21
    go_wp2_with fail
    refine (HO.out _ (Below.refl _ _)).mono ?_
    rintro e w2 ⟨⟨a2, c2, rfl, hI⟩, hb2⟩
    have HB2 := Lib.hid (hb2.alloc hb2.size (.cells #[.slice al m capl, .slice a2 m c2] 70))
    clear hb2 hI HO
    go_wp2_with fail
    refine (HS.out _ _ HB2.out).mono ?_
    rintro e w3 ⟨hr, hb3⟩
    have HB3 := Lib.hid (HB2.out.trans (hb3.mono HB2.out.size))
    clear hb3 HS
    rcases hr with ⟨hc, rfl⟩ | ⟨hc, hnl, hld, a', c', rfl, hg⟩
    · have HC := Lib.hid hc
      clear hc
      go_wp2
      go_returns
      exact ⟨.inl ⟨by rw [HE.out]; exact HC.out, by rw [HE.out]; rfl⟩, HB3.out⟩
    · have HC := Lib.hid (And.intro hc (And.intro hnl (And.intro hld hg)))
      clear hc hnl hld hg
      go_wp2
      go_returns
      exact ⟨.inr ⟨by rw [HE.out]; exact HC.out.1, rfl, HC.out.2.1, HC.out.2.2.1, _, _, rfl, HC.out.2.2.2⟩, HB3.out⟩
set_option maxRecDepth 100000 in
set_option maxHeartbeats 1000000 in
theorem rborne_say : Calls Tryd.prog 22 #[.slice a n cap, .slice al m capl, .slice aq nq cq] w fun e w' => BoA (vgB n gm gl gd gb && vrB n m gm lm lf) m nq lf lo (boE (vgB n gm gl gd gb && vrB n m gm lm lf) nq lo (thN (enB m lf) m).length) w' e ∧ Below w.heap.size w w' := by
  have HV := Lib.hid (rvalidRig_say a n cap gm gl gd gb al m capl lm lf w hA hL hn hm hcap h1 h2 h3)
  cases hb : vgB n gm gl gd gb && vrB n m gm lm lf
  · rw [hb] at HV
    clear hb hA hL h1 h2 h3 hn hm hcap hQ hnq
    go_enter Tryd.func22, Tryd.ntmps22
    go_wp2_with fail
    refine HV.out.mono ?_
    rintro e w2 ⟨rfl, hb2⟩
    have HB2 := Lib.hid hb2
    clear hb2 HV
    go_wp2
    go_returns
    exact ⟨.inl ⟨by simp [boE], rfl⟩, HB2.out⟩
  · have HV2 := vr_lt (n := n) (m := m) (gm := gm) (lm := lm) (lf := lf) (by simp at hb; exact hb.2)
    have HL := Lib.hid (fun W (hW : Below w.heap.size w W) => rloaded_any al m capl lm lf aq nq cq lo W (hL.on hW) (hQ.on hW) hm hnq)
    have HS := Lib.hid (fun W (hW : Below w.heap.size w W) h4 h5 => rborne_any al m capl lm lf aq nq cq lo W (hL.on hW) (hQ.on hW) hm HV2 h4 h5)
    have HE : Hid (boE true nq lo (thN (enB m lf) m).length = brE nq lo (thN (enB m lf) m).length) := Lib.hid rfl
    have HBR := Lib.hid (fun i (hi : i < m) (h4 : nq = (thN (enB m lf) m).length) => bo_rb HV2 (lo := lo) (thN_nodup (enB m lf) m) th_mem hi nq (by omega))
    rw [hb] at HV
    clear hb hA hL h1 h2 h3 hn hm hcap HV2 hQ hnq
    by_cases hok : nq = (thN (enB m lf) m).length ∧ LdOk nq lo
    · have e0 : brE nq lo (thN (enB m lf) m).length = 0 := by unfold brE; rw [if_pos hok.1, if_pos hok.2]
      rw [e0] at HL HE
      have HK := Lib.hid hok
      clear hok e0
      go_enter Tryd.func22, Tryd.ntmps22
      go_wp2_with fail
      refine HV.out.mono ?_
      rintro e w2 ⟨rfl, hb2⟩
      have HB2 := Lib.hid hb2
      clear hb2 HV
      go_wp2_with fail
      refine (HL.out _ HB2.out).mono ?_
      rintro e w3 ⟨rfl, hb3⟩
      have HB3 := Lib.hid (HB2.out.trans (hb3.mono HB2.out.size))
      clear hb3 HL
      go_wp2_with fail
      refine (HS.out _ HB3.out HK.out.1 HK.out.2).mono ?_
      rintro e w4 ⟨⟨b, rfl, hg⟩, hb4⟩
      have HB4 := Lib.hid (HB3.out.trans (hb4.mono HB3.out.size))
      have HG := Lib.hid hg
      clear hb4 HS hg
      go_wp2
      go_returns
      exact ⟨.inr ⟨HE.out, rfl, HK.out.1, HK.out.2, _, _, rfl, (HG.out.congr (fun i hi => (HBR.out i hi HK.out.1).symm)).at⟩, HB4.out⟩
    · have hne : brE nq lo (thN (enB m lf) m).length ≠ 0 := by
        unfold brE
        by_cases h4 : nq = (thN (enB m lf) m).length
        · rw [if_pos h4, if_neg (fun h5 => hok ⟨h4, h5⟩)]; decide
        · rw [if_neg h4]; decide
      generalize brE nq lo (thN (enB m lf) m).length = c at *
      have hnb : (c != 0) = true := by simp [hne]
      have HN := Lib.hid hne
      clear hne hok HS HBR
      go_enter Tryd.func22, Tryd.ntmps22
      go_wp2_with fail
      refine HV.out.mono ?_
      rintro e w2 ⟨rfl, hb2⟩
      have HB2 := Lib.hid hb2
      clear hb2 HV
      go_wp2_with fail
      refine (HL.out _ HB2.out).mono ?_
      rintro e w3 ⟨rfl, hb3⟩
      have HB3 := Lib.hid (HB2.out.trans (hb3.mono HB2.out.size))
      clear hb3 HL
      go_wp2
      go_returns
      exact ⟨.inl ⟨by rw [HE.out]; exact HN.out, by rw [HE.out]; rfl⟩, HB3.out⟩
end
set_option maxRecDepth 100000 in
set_option maxHeartbeats 1000000 in
theorem sameG_any (a a2 : Option Addr) (n cap cap2 : Nat) (g : Nat → Int) (w : World) (h1 : GAt w a n g) (h2 : GAt w a2 n g) (hn : n ≤ 1000) :
    Calls Tryd.prog 20 #[.slice a n cap, .slice a2 n cap2] w fun e w' => e = .returned (.bool true) ∧ Below w.heap.size w w' := by
  have hnI : ((n : Nat) : Int) ≤ 1000 := by omega
  have H1 := Lib.hid h1
  have H2 := Lib.hid h2
  clear h1 h2
  go_enter Tryd.func20, Tryd.ntmps20
  go_wp2
  go_loopw [5] (fun i W => ∃ k : Nat, k ≤ n ∧ i = .int .i64 k ∧ ∃ x : After w, W = x.w) (fun i _ => n - (intOf i).toNat)
  case atStart => exact ⟨0, Nat.zero_le _, rfl, ⟨w, Below.refl _ _⟩, rfl⟩
  case round =>
    obtain ⟨k, hk, rfl, x, rfl⟩ := hrel
    by_cases hlt : k < n
    · have hlti : (k : Int) < (n : Int) := by omega
      obtain ⟨b, off, rfl, hb, c1⟩ := H1.out k hlt
      obtain ⟨b2, off2, rfl, hb2, c2⟩ := H2.out k hlt
      generalize g k = z at *
      go_wp2
      refine wp_region_after (by kernel_rfl) (by kernel_rfl) ?_; (repeat (first | go_big_quiet_step ((fail)) | (refine wpQuiet_step (fun K hK => ?_); go_simp; first | (refine hK _ ?_; clear hK K) | (apply Exists.intro; refine ⟨fun x => ?_, hK _ ?_⟩; (fail); clear hK K)))); refine wpQuiet_nil ?_
      intro y
      go_wp2
      go_roundw
      case rel => exact ⟨k + 1, by omega, by go_num, ⟨_, x.out.trans (y.out.mono x.out.size)⟩, rfl⟩
      case measure => simp [intOf]; omega
    · obtain rfl : k = n := by omega
      go_wp2
      go_ret
      exact ⟨rfl, by (repeat' (first | (with_reducible exact Below.refl _ _) | (with_reducible assumption) | (with_reducible refine Below.alloc ?_ ?_ _) | (with_reducible refine Below.drew ?_) | (with_reducible refine below_drewN ?_ _) | (with_reducible refine Below.setCell ?_ ?_ _) | (with_reducible refine below_after ?_ ?_ _) | (with_reducible refine below_set ?_) | (with_reducible refine After.size_le _ ?_) | (with_reducible refine size_alloc_le ?_) | (with_reducible refine size_set_le ?_) | (with_reducible refine size_drewN_le ?_) | go_size))⟩
end Go.Proofs.YtmbjgaeofkikkaaDoor
