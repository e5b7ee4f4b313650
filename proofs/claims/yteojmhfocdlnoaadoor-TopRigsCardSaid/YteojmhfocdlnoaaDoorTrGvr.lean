/- Valid rigs: validRig and ValidRig of the reference. -/
import Derived.Test.YteojmhfocdlnoaaDoorTrGha
namespace Go.Proofs.YteojmhfocdlnoaaDoor.Tr
open Go.Proofs.YteojmhfocdlnoaaDoor
open Go.RowKit
attribute [local go_sem] After.cell After.frozen After.lt After.le After.ne After.ne' After.set_eq After.size_set After.lt_add tx_size tx_toList

/-- A link that may stand at i. -/
def LkOk (n : Nat) (gm lm : Nat → List UInt8) (lf : Nat → Int) (i : Nat) : Prop := fdN gm n (lm i) ≠ none ∧ mhB i (lf i) = true ∧ fdN lm i (lm i) = none
def VrT (n k : Nat) (gm lm : Nat → List UInt8) (lf : Nat → Int) : Prop := ∀ i, i < k → LkOk n gm lm lf i
def VrP (n m : Nat) (gm lm : Nat → List UInt8) (lf : Nat → Int) : Prop := (1 ≤ m ∧ m ≤ 32) ∧ VrT n m gm lm lf
open Classical in
noncomputable def vrB (n m : Nat) (gm lm : Nat → List UInt8) (lf : Nat → Int) : Bool := decide (VrP n m gm lm lf)
section
variable {n m k i : Nat} {gm lm : Nat → List UInt8} {lf : Nat → Int}
theorem vrT_zero : VrT n 0 gm lm lf := fun i hi => by omega
theorem vrT_succ (h : VrT n k gm lm lf) (h1 : LkOk n gm lm lf k) : VrT n (k + 1) gm lm lf := fun i hi => by
  by_cases e : i = k
  · subst e; exact h1
  · exact h i (by omega)
open Classical in
theorem vrB_true (h : VrP n m gm lm lf) : vrB n m gm lm lf = true := by unfold vrB; exact decide_eq_true h
open Classical in
theorem vrB_of (h : vrB n m gm lm lf = true) : VrP n m gm lm lf := by unfold vrB at h; exact of_decide_eq_true h
open Classical in
theorem vrB_false (h : ¬ VrP n m gm lm lf) : vrB n m gm lm lf = false := by unfold vrB; exact decide_eq_false h
theorem vr_not (hi : i < m) (h : ¬ LkOk n gm lm lf i) : vrB n m gm lm lf = false := vrB_false fun g => h (g.2 i hi)
theorem vr_len (h : ¬ (1 ≤ m ∧ m ≤ 32)) : vrB n m gm lm lf = false := vrB_false fun g => h g.1
end
set_option maxRecDepth 100000 in
set_option maxHeartbeats 4000000 in
theorem rvalidRig0_any (a : Option Addr) (n cap : Nat) (gm : Nat → List UInt8) (gl gd : Nat → Int) (gb : Nat → List UInt8) (al : Option Addr) (m capl : Nat) (lm : Nat → List UInt8) (lf : Nat → Int) (w : World) (hA : ItAt w a n gm gl gd gb) (hL : LkAt w al m lm lf) (hn : n ≤ 1000) (hm : m ≤ 1000) :
    Calls Tryd.prog 12 #[.slice a n cap, .slice al m capl] w fun e w' => e = .returned (.bool (vrB n m gm lm lf)) ∧ Below w.heap.size w w' := by
  have hmI : (m : Int) ≤ 1000 := by omega
  have HA := Lib.hid hA
  have HL := Lib.hid hL
  have HN := Lib.hid hn
  have hW := fun W => rwithin_any (m : Nat) 1 32 W
  clear hA hL hn hm
  go_enter Tryd.func12, Tryd.ntmps12
  go_wp2
  go_loopw [5, 6] (fun i _ W => ∃ k : Nat, k ≤ m ∧ i = .int .i64 k ∧ Hid (VrT n k gm lm lf) ∧ ∃ x : After w, W = x.w) (fun i _ _ => m - (intOf i).toNat)
  case atStart => exact ⟨0, Nat.zero_le _, rfl, Lib.hid vrT_zero, ⟨w, Below.refl _ _⟩, rfl⟩
  case round =>
    obtain ⟨k, hk, rfl, HT, x, rfl⟩ := hrel
    by_cases hlt : k < m
    · have hlti : (k : Int) < (m : Int) := by omega
      obtain ⟨b, off, rfl, hb, c0, c1⟩ := HL.out k hlt
      have HF := Lib.hid (fun W (hW : Below w.heap.size w W) => rfind_any a n cap gm gl gd gb (lm k) W (HA.out.on hW) (by have := HN.out; omega))
      have HNo := Lib.hid (fun h => vr_not (n := n) (gm := gm) (lm := lm) (lf := lf) hlt h)
      have HOk : Hid (LkOk n gm lm lf k = (fdN gm n (lm k) ≠ none ∧ mhB k (lf k) = true ∧ fdN lm k (lm k) = none)) := Lib.hid rfl
      have HMh : Hid (mhB k (lf k) = if k = 0 then decide (lf k = -1) else decide (0 ≤ lf k) && decide (lf k < k)) := Lib.hid rfl
      unfold fdI at HF
      cases hf : fdN gm n (lm k)
      case none =>
        rw [hf] at HF
        have HQ := Lib.hid (HNo.out (fun h => h.1 hf))
        clear hf
        go_wp2_with (go_at_call 22; refine calls_after2 (HF.out _ x.out) ?_; intro y)
        go_returns
        exact ⟨by rw [HQ.out]; rfl, by (repeat' (first | (with_reducible exact Below.refl _ _) | (with_reducible assumption) | (with_reducible refine Below.alloc ?_ ?_ _) | (with_reducible refine Below.drew ?_) | (with_reducible refine below_drewN ?_ _) | (with_reducible refine Below.setCell ?_ ?_ _) | (with_reducible refine below_after ?_ ?_ _) | (with_reducible refine below_set ?_) | (with_reducible refine After.size_le _ ?_) | (with_reducible refine size_alloc_le ?_) | (with_reducible refine size_set_le ?_) | (with_reducible refine size_drewN_le ?_) | go_size))⟩
      case some j =>
        rw [hf] at HF
        have HSome : Hid (fdN gm n (lm k) ≠ none) := Lib.hid (by rw [hf]; exact fun h => by cases h)
        clear hf
        have hj0 : ¬ ((j : Nat) : Int) < 0 := by omega
        have HNm := Lib.hid (fun (h : mhB k (lf k) = false) => HNo.out (fun g => by have h3 := g.2.1; rw [h] at h3; cases h3))
        generalize lf k = f at *
        by_cases hk0 : k = 0
        · have hk1 : ((k : Int) == 0) = true := by simp; omega
          have hk2 : ¬ (0 : Int) < (k : Int) := by omega
          by_cases hf1 : f = -1
          · have HOkk : Hid (LkOk n gm lm lf k) := Lib.hid (by rw [HOk.out]; exact ⟨HSome.out, by rw [HMh.out, if_pos hk0]; exact decide_eq_true hf1, fdN_none.2 fun i hi => by omega⟩)
            have HG := Lib.hid (vrT_succ HT.out HOkk.out)
            subst hf1
            clear hk0
            go_wp2_with (go_at_call 22; refine calls_after2 (HF.out _ x.out) ?_; intro y)
            go_loopw [6] (fun i W => i = .int .i64 0 ∧ ∃ x : After w, W = x.w) (fun _ _ => 0)
            case atStart => exact ⟨rfl, y, rfl⟩
            case round =>
              obtain ⟨rfl, x2, rfl⟩ := hrel
              go_wp2
              go_roundw
              case rel => exact ⟨k + 1, by omega, by go_num, HG, x2, rfl⟩
              case measure => simp [intOf]; omega
          · have HQ := Lib.hid (HNm.out (by rw [HMh.out, if_pos hk0]; exact decide_eq_false hf1))
            have hf2 : (f == -1) = false := by simp [hf1]
            have hf3 : (f != -1) = true := by simp [hf1]
            clear hk0
            go_wp2_with (go_at_call 22; refine calls_after2 (HF.out _ x.out) ?_; intro y)
            go_returns
            exact ⟨by rw [HQ.out]; rfl, by (repeat' (first | (with_reducible exact Below.refl _ _) | (with_reducible assumption) | (with_reducible refine Below.alloc ?_ ?_ _) | (with_reducible refine Below.drew ?_) | (with_reducible refine below_drewN ?_ _) | (with_reducible refine Below.setCell ?_ ?_ _) | (with_reducible refine below_after ?_ ?_ _) | (with_reducible refine below_set ?_) | (with_reducible refine After.size_le _ ?_) | (with_reducible refine size_alloc_le ?_) | (with_reducible refine size_set_le ?_) | (with_reducible refine size_drewN_le ?_) | go_size))⟩
        · have hk1 : ((k : Int) == 0) = false := by simp; omega
          have hk2 : (0 : Int) < (k : Int) := by omega
          by_cases hf1 : f < 0
          · have HQ := Lib.hid (HNm.out (by rw [HMh.out, if_neg hk0]; simp; omega))
            clear hk0
            go_wp2_with (go_at_call 22; refine calls_after2 (HF.out _ x.out) ?_; intro y)
            go_returns
            exact ⟨by rw [HQ.out]; rfl, by (repeat' (first | (with_reducible exact Below.refl _ _) | (with_reducible assumption) | (with_reducible refine Below.alloc ?_ ?_ _) | (with_reducible refine Below.drew ?_) | (with_reducible refine below_drewN ?_ _) | (with_reducible refine Below.setCell ?_ ?_ _) | (with_reducible refine below_after ?_ ?_ _) | (with_reducible refine below_set ?_) | (with_reducible refine After.size_le _ ?_) | (with_reducible refine size_alloc_le ?_) | (with_reducible refine size_set_le ?_) | (with_reducible refine size_drewN_le ?_) | go_size))⟩
          · by_cases hf2 : (k : Int) ≤ f
            · have HQ := Lib.hid (HNm.out (by rw [HMh.out, if_neg hk0]; simp; omega))
              clear hk0
              go_wp2_with (go_at_call 22; refine calls_after2 (HF.out _ x.out) ?_; intro y)
              go_returns
              exact ⟨by rw [HQ.out]; rfl, by (repeat' (first | (with_reducible exact Below.refl _ _) | (with_reducible assumption) | (with_reducible refine Below.alloc ?_ ?_ _) | (with_reducible refine Below.drew ?_) | (with_reducible refine below_drewN ?_ _) | (with_reducible refine Below.setCell ?_ ?_ _) | (with_reducible refine below_after ?_ ?_ _) | (with_reducible refine below_set ?_) | (with_reducible refine After.size_le _ ?_) | (with_reducible refine size_alloc_le ?_) | (with_reducible refine size_set_le ?_) | (with_reducible refine size_drewN_le ?_) | go_size))⟩
            · have HM1 : Hid (mhB k f = true) := Lib.hid (by rw [HMh.out, if_neg hk0]; simp; omega)
              clear hk0
              go_wp2_with (go_at_call 22; refine calls_after2 (HF.out _ x.out) ?_; intro y)
              go_loopw [6] (fun i W => ∃ j : Nat, j ≤ k ∧ i = .int .i64 j ∧ Hid (∀ t, t < j → lm t ≠ lm k) ∧ ∃ x : After w, W = x.w) (fun i _ => k - (intOf i).toNat)
              case atStart => exact ⟨0, Nat.zero_le _, rfl, Lib.hid (fun t ht => by omega), y, rfl⟩
              case round =>
                clear c0 c1 hb
                obtain ⟨t, ht, rfl, HD, x2, rfl⟩ := hrel
                by_cases htk : t < k
                · have htki : (t : Int) < (k : Int) := by omega
                  have htm : (t : Int) < (m : Int) := by omega
                  obtain ⟨b1, off1, e1, hb1, d0, _⟩ := HL.out t (by omega)
                  cases e1
                  obtain ⟨b2, off2, e2, hb2, d2, _⟩ := HL.out k hlt
                  cases e2
                  by_cases he : lm t = lm k
                  · have HQ := Lib.hid (HNo.out (fun h => (fdN_none.1 h.2.2) t htk he))
                    have hee : (lm t == lm k) = true := by simp [he]
                    clear he
                    go_wp2
                    refine wp_region_after (by kernel_rfl) (by kernel_rfl) ?_; (repeat (first | go_big_quiet_step ((fail)) | (refine wpQuiet_step (fun K hK => ?_); go_simp; first | (refine hK _ ?_; clear hK K) | (apply Exists.intro; refine ⟨fun x => ?_, hK _ ?_⟩; (fail); clear hK K)))); refine wpQuiet_nil ?_
                    intro y2
                    go_wp2
                    go_returns
                    exact ⟨by rw [HQ.out]; rfl, by (repeat' (first | (with_reducible exact Below.refl _ _) | (with_reducible assumption) | (with_reducible refine Below.alloc ?_ ?_ _) | (with_reducible refine Below.drew ?_) | (with_reducible refine below_drewN ?_ _) | (with_reducible refine Below.setCell ?_ ?_ _) | (with_reducible refine below_after ?_ ?_ _) | (with_reducible refine below_set ?_) | (with_reducible refine After.size_le _ ?_) | (with_reducible refine size_alloc_le ?_) | (with_reducible refine size_set_le ?_) | (with_reducible refine size_drewN_le ?_) | go_size))⟩
                  · have hee : (lm t == lm k) = false := by simp [he]
                    have HE := Lib.hid he
                    clear he
                    go_wp2
                    refine wp_region_after (by kernel_rfl) (by kernel_rfl) ?_; (repeat (first | go_big_quiet_step ((fail)) | (refine wpQuiet_step (fun K hK => ?_); go_simp; first | (refine hK _ ?_; clear hK K) | (apply Exists.intro; refine ⟨fun x => ?_, hK _ ?_⟩; (fail); clear hK K)))); refine wpQuiet_nil ?_
                    intro y2
                    go_wp2
                    go_roundw
                    case rel => exact ⟨t + 1, by omega, by go_num, Lib.hid (fun s hs => by
                      by_cases e3 : s = t
                      · subst e3; exact HE.out
                      · exact HD.out s (by omega)), ⟨_, x2.out.trans (y2.out.mono x2.out.size)⟩, rfl⟩
                    case measure => simp [intOf]; omega
                · obtain rfl : k = t := by omega
                  have htki : ¬ (k : Int) < (k : Int) := by omega
                  have HG := Lib.hid (vrT_succ HT.out (by rw [HOk.out]; exact ⟨HSome.out, HM1.out, fdN_none.2 HD.out⟩))
                  go_wp2
                  go_roundw
                  case rel => exact ⟨k + 1, by omega, by go_num, HG, x2, rfl⟩
                  case measure => simp [intOf]; omega
    · obtain rfl : k = m := by omega
      have HQ : Hid (vrB n k gm lm lf = decide (Btw ((k : Nat) : Int) 1 32)) := Lib.hid (by
        by_cases h : 1 ≤ k ∧ k ≤ 32
        · rw [vrB_true ⟨h, HT.out⟩, decide_eq_true]; unfold Btw; omega
        · rw [vr_len h, decide_eq_false]; unfold Btw; omega)
      go_wp2_with (go_at_call 21; refine (hW _).mono ?_; rintro e w' ⟨rfl, rfl⟩)
      go_ret
      exact ⟨by rw [HQ.out]; rfl, by (repeat' (first | (with_reducible exact Below.refl _ _) | (with_reducible assumption) | (with_reducible refine Below.alloc ?_ ?_ _) | (with_reducible refine Below.drew ?_) | (with_reducible refine below_drewN ?_ _) | (with_reducible refine Below.setCell ?_ ?_ _) | (with_reducible refine below_after ?_ ?_ _) | (with_reducible refine below_set ?_) | (with_reducible refine After.size_le _ ?_) | (with_reducible refine size_alloc_le ?_) | (with_reducible refine size_set_le ?_) | (with_reducible refine size_drewN_le ?_) | go_size))⟩
end Go.Proofs.YteojmhfocdlnoaaDoor.Tr
