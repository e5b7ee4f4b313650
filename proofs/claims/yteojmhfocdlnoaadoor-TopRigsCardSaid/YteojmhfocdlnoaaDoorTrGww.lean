/- Weak of the program. -/
import Derived.Test.YteojmhfocdlnoaaDoorTrGwm
import Derived.Test.YteojmhfocdlnoaaDoorTrGbs
namespace Go.Proofs.YteojmhfocdlnoaaDoor.Tr
open Go.Proofs.YteojmhfocdlnoaaDoor
open Go.RowKit
attribute [local go_sem] After.cell After.frozen After.lt After.le After.ne After.ne' After.set_eq After.size_set After.lt_add tx_size tx_toList

/-- The error of Weak. -/
def wkE (b : Bool) (nk : Nat) (c day : Int) : Int := if b then (if 100 < nk then 4 else if c ≠ 0 then c else if Btw day 0 100000 then 0 else 7) else 1
/-- What Weak answers. -/
def WkA (m : Nat) (wk : Nat → Bool) (c : Int) (W : World) (e : Ending) : Prop :=
  (c ≠ 0 ∧ e = .returned (.tuple #[.slice none 0 0, .int .i64 c])) ∨ (c = 0 ∧ ∃ v, e = .returned (.tuple #[v, .int .i64 0]) ∧ NAt W v (thN wk m))
/-- The weak links. -/
def wkF (n : Nat) (gm lm : Nat → List UInt8) (gl gd : Nat → Int) (gb : Nat → List UInt8) (m : Nat) (lf : Nat → Int) (day : Int) (nk : Nat) (gs : Nat → List UInt8) (nq : Nat) (lo : Nat → Int) (i : Nat) : Bool :=
  wkB day nk gs (fun i => gl (ixO n gm lm i)) (fun i => gd (ixO n gm lm i)) (fun i => gb (ixO n gm lm i)) (boN lf m (owN lo (thN (enB m lf) m) nq)) i
section
variable (a : Option Addr) (n cap : Nat) (gm : Nat → List UInt8) (gl gd : Nat → Int) (gb : Nat → List UInt8) (al : Option Addr) (m capl : Nat) (lm : Nat → List UInt8) (lf : Nat → Int) (ak : Option Addr) (nk ck : Nat) (gs : Nat → List UInt8) (day : Int) (aq : Option Addr) (nq cq : Nat) (lo : Nat → Int) (w : World) (hA : ItAt w a n gm gl gd gb) (hL : LkAt w al m lm lf) (hT : TAt w ak nk gs) (hQ : GAt w aq nq lo) (hn : n ≤ 1000) (hm : m ≤ 1000) (hcap : m ≤ capl) (h1 : Sht n gm) (h2 : Sht n gb) (h3 : Sht m lm) (hnq : nq ≤ 1000) (hnk : nk ≤ 1000)
include hA hL hT hQ hn hm hcap h1 h2 h3 hnq hnk
set_option maxRecDepth 100000 in
set_option maxHeartbeats 2000000 in
theorem weak_any : Calls Tryd.prog 16 #[.slice a n cap, .slice al m capl, .slice ak nk ck, .int .i64 day, .slice aq nq cq] w fun e w' => WkA m (wkF n gm lm gl gd gb m lf day nk gs nq lo) (wkE (vgB n gm gl gd gb && vrB n m gm lm lf) nk (brE nq lo (thN (enB m lf) m).length) day) w' e ∧ Below w.heap.size w w' := by
  have HO := Lib.hid (fun W (hW : Below w.heap.size w W) => open_any a n cap gm gl gd gb al m capl lm lf W (hA.on hW) (hL.on hW) hn hm hcap h1 h2 h3)
  have hkI : (nk : Int) ≤ 1000 := by omega
  have hmI : (m : Int) ≤ 1000 := by omega
  cases hb : vgB n gm gl gd gb && vrB n m gm lm lf
  · rw [hb] at HO
    clear hb hA hL hT h1 h2 h3 hn hm hcap hQ hnq
    go_enter Tryd.func16, Tryd.ntmps16
    go_wp2_with fail
    refine (HO.out _ (Below.refl _ _)).mono ?_
    rintro e w2 ⟨hr, hb2⟩
    obtain rfl : e = _ := hr
    have HB2 := Lib.hid (hb2.alloc hb2.size (.cells #[.slice none 0 0, .slice none 0 0] 44))
    clear hb2
    go_wp2
    go_returns
    exact ⟨.inl ⟨by simp [wkE], rfl⟩, HB2.out⟩
  · have HV2 := Lib.hid (vr_lt (n := n) (m := m) (gm := gm) (lm := lm) (lf := lf) (by simp at hb; exact hb.2))
    have HS := Lib.hid (fun iv W (hW : Below w.heap.size w W) => borne_any al m capl lm lf iv aq nq cq lo W (hL.on hW) (hQ.on hW) hm (m_of hb) HV2.out hnq)
    have HT := Lib.hid hT
    have HD := Lib.hid (fun W => validDay_any day W)
    have Hm := Lib.hid hm
    rw [hb] at HO
    clear hb hA hL hT h1 h2 h3 hn hm hcap HV2 hQ hnq
    by_cases h100 : (100 : Int) < (nk : Int)
    · have HE : Hid (wkE true nk (brE nq lo (thN (enB m lf) m).length) day = 4) := Lib.hid (by unfold wkE; rw [if_pos rfl, if_pos (by omega)])
      go_enter Tryd.func16, Tryd.ntmps16
      go_wp2_with fail
      refine (HO.out _ (Below.refl _ _)).mono ?_
      rintro e w2 ⟨⟨a2, c2, rfl, hI⟩, hb2⟩
      have HB2 := Lib.hid (hb2.alloc hb2.size (.cells #[.slice al m capl, .slice a2 m c2] 44))
      clear hb2 hI HO
      go_wp2
      go_returns
      exact ⟨.inl ⟨by rw [HE.out]; decide, by rw [HE.out]; rfl⟩, HB2.out⟩
    · go_enter Tryd.func16, Tryd.ntmps16
      go_wp2_with fail
      refine (HO.out _ (Below.refl _ _)).mono ?_
      rintro e w2 ⟨⟨a2, c2, rfl, hI⟩, hb2⟩
      have hb3 := hb2.alloc hb2.size (.cells #[.slice al m capl, .slice a2 m c2] 44)
      have HB2 := Lib.hid hb3
      have HI := Lib.hid (hI.on ((Below.refl _ w2).alloc (Nat.le_refl _) (.cells #[.slice al m capl, .slice a2 m c2] 44)))
      have hs2 := hb2.size
      clear hb2 hI HO hb3
      go_wp2_with fail
      refine (HS.out _ _ HB2.out).mono ?_
      rintro e w3 ⟨hr, hb3⟩
      have hB3 := HB2.out.trans (hb3.mono HB2.out.size)
      have HB3 := Lib.hid hB3
      have HI3 := Lib.hid (HI.out.on hb3)
      have r1 : w3.cell? ⟨w2.heap.size, 1, none⟩ = some (.slice a2 m c2) := (hb3.cell (p := ⟨w2.heap.size, 1, none⟩) (by simp)).trans (by simp [go_sem])
      have hs3 := hb3.size
      simp at hs3
      clear hb3 HI hB3
      rcases hr with ⟨hc, rfl⟩ | ⟨hc, hnl, hld, a', c', rfl, hg⟩
      · have hne : (brE nq lo (thN (enB m lf) m).length != 0) = true := by simp [hc]
        have HE : Hid (wkE true nk (brE nq lo (thN (enB m lf) m).length) day = brE nq lo (thN (enB m lf) m).length) := Lib.hid (by unfold wkE; rw [if_pos rfl, if_neg (by omega), if_pos hc])
        have HC := Lib.hid hc
        clear hc
        have HB4 := Lib.hid (HB3.out.alloc HB3.out.size (.cells #[.slice none 0 0] 26))
        go_wp2
        go_returns
        exact ⟨.inl ⟨by rw [HE.out]; exact HC.out, by rw [HE.out]; rfl⟩, HB4.out⟩
      · by_cases hd : Btw day 0 100000
        · rw [decide_eq_true hd] at HD
          have HE : Hid (wkE true nk (brE nq lo (thN (enB m lf) m).length) day = 0) := Lib.hid (by unfold wkE; rw [if_pos rfl, if_neg (by omega), if_neg (by rw [hc]; simp), if_pos hd])
          have HG := Lib.hid hg
          clear hc hnl hld hg hd
          have hB4 := HB3.out.alloc HB3.out.size (.cells #[.slice a' m c'] 26)
          obtain ⟨W5, hW5⟩ : ∃ W5, ((((w3.alloc (.cells #[.slice a' m c'] 26)).alloc (.cells #[.slice ak nk ck] 48)).alloc (.cells #[.int .i64 day] 3)).alloc (.cells #[fvW (w3.heap.size + 1 + 1) (w3.heap.size + 1) 0, fvW (w3.heap.size + 1 + 1) (w3.heap.size + 1) 1, fvW (w3.heap.size + 1 + 1) (w3.heap.size + 1) 2] 71)).alloc (.cells #[.slice (some ⟨w3.heap.size + 1 + 2, 0, none⟩) 3 3] 66) = W5 := ⟨_, rfl⟩
          have b35 : Below w3.heap.size w3 W5 := by rw [← hW5]; (repeat' (first | (with_reducible exact Below.refl _ _) | (with_reducible assumption) | (with_reducible refine Below.alloc ?_ ?_ _) | (with_reducible refine Below.drew ?_) | (with_reducible refine below_drewN ?_ _) | (with_reducible refine Below.setCell ?_ ?_ _) | (with_reducible refine below_after ?_ ?_ _) | (with_reducible refine below_set ?_) | (with_reducible refine After.size_le _ ?_) | (with_reducible refine size_alloc_le ?_) | (with_reducible refine size_set_le ?_) | (with_reducible refine size_drewN_le ?_) | go_size))
          have ca : W5.cell? ⟨w3.heap.size + 4, 0, none⟩ = some (.slice (some ⟨w3.heap.size + 1 + 2, 0, none⟩) 3 3) := by rw [← hW5]; simp [go_sem]
          have cF : ∀ k, k < 3 → W5.cell? ⟨w3.heap.size + 1 + 2, k, none⟩ = some (fvW (w3.heap.size + 1 + 1) (w3.heap.size + 1) k) := fun k hk => by
            rw [← hW5]
            rcases (show k = 0 ∨ k = 1 ∨ k = 2 by omega) with rfl | rfl | rfl <;> simp [go_sem, fvW]
          have cb : W5.cell? ⟨w3.heap.size, 0, none⟩ = some (.slice a' m c') := by rw [← hW5]; simp [go_sem]
          have cd : W5.cell? ⟨w3.heap.size + 1 + 1, 0, none⟩ = some (.int .i64 day) := by rw [← hW5]; simp [go_sem]
          have ck' : W5.cell? ⟨w3.heap.size + 1, 0, none⟩ = some (.slice ak nk ck) := by rw [← hW5]; simp [go_sem]
          have co := (b35.cell (p := ⟨w2.heap.size, 1, none⟩) (World.block_lt_of_cell? w3 _ r1)).trans r1
          have HB5 := Lib.hid (HB3.out.trans (b35.mono HB3.out.size))
          have HI5 := Lib.hid (HI3.out.on b35)
          have HG5 := Lib.hid (HG.out.on b35)
          have HT5 := Lib.hid (HT.out.on HB5.out)
          have HTh := Lib.hid (those_any 32 #[] #[.pointer (some ⟨w3.heap.size + 4, 0, none⟩), .pointer (some ⟨w2.heap.size, 0, none⟩), .pointer (some ⟨w3.heap.size, 0, none⟩)] (enters_of Tryd.func32 (by kernel_rfl) rfl) m (wkF n gm lm gl gd gb m lf day nk gs nq lo) W5 (by have := Hm.out; omega) (fun i hi W hW => by
            have on : ∀ {p : Addr} {v : Value}, W5.cell? p = some v → W.cell? p = some v := fun {p v} h => (hW.cell (p := p) (World.block_lt_of_cell? _ _ h)).trans h
            exact weak1_any (w3.heap.size + 4) w2.heap.size w3.heap.size (w3.heap.size + 1 + 2) (w3.heap.size + 1 + 1) (w3.heap.size + 1) a2 a' ak m c2 c' nk ck i gs _ _ _ _ _ day W (on ca) (fun k hk => on (cF k hk)) (on co) (on cb) (on cd) (on ck') (HT5.out.on hW) (by omega) (HI5.out.on hW) (HG5.out.on hW) hi Hm.out))
          clear ca cF cb cd ck' co HI5 HG5 HT5 b35 hB4 HG HT
          go_wp2_with (first | (go_at_call 18; refine (HD.out _).mono ?_; rintro e w9 ⟨rfl, rfl⟩) | (go_at_call 31; refine (faults_mk ak nk ck day _).mono ?_; rintro e w9 ⟨rfl, rfl⟩))
          trace_state
          refine HTh.out.mono ?_
          rintro e w6 ⟨v, rfl, hO6, hb6⟩
          have HN := Lib.hid (nat_of hO6)
          have HB6 := Lib.hid (HB5.out.trans (hb6.mono HB5.out.size))
          clear hO6 hb6 HTh
          go_wp2
          go_returns
          exact ⟨.inr ⟨HE.out, _, rfl, HN.out⟩, HB6.out⟩
        · rw [decide_eq_false hd] at HD
          have HE : Hid (wkE true nk (brE nq lo (thN (enB m lf) m).length) day = 7) := Lib.hid (by unfold wkE; rw [if_pos rfl, if_neg (by omega), if_neg (by rw [hc]; simp), if_neg hd])
          have HB4 := Lib.hid (HB3.out.alloc HB3.out.size (.cells #[.slice a' m c'] 26))
          clear hc hnl hld hg hd
          go_wp2_with (go_at_call 18; refine (HD.out _).mono ?_; rintro e w9 ⟨rfl, rfl⟩)
          go_returns
          exact ⟨.inl ⟨by rw [HE.out]; decide, by rw [HE.out]; rfl⟩, HB4.out⟩
end
end Go.Proofs.YteojmhfocdlnoaaDoor.Tr
