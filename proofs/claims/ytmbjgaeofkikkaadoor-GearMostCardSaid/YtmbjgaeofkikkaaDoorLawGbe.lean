/- GearBears: the law's walk. -/
import Derived.Test.YtmbjgaeofkikkaaDoorGbs
import Derived.Test.YtmbjgaeofkikkaaDoorGmy
import Derived.Test.YtmbjgaeofkikkaaDoorGaw
namespace Go.Proofs.YtmbjgaeofkikkaaDoor
open Go.RowKit
attribute [local go_sem] After.cell After.frozen After.lt After.le After.ne After.ne' After.set_eq After.size_set After.lt_add tx_size tx_toList

theorem after_og3 {W W' : World} (h : Below W.heap.size W W') : ∃ y : After W, W' = y.w := ⟨⟨W', h⟩, rfl⟩
def zrJ (c : Int) (n : Nat) : Nat := if c = 0 then n else 0
theorem zrJ_le (c : Int) (n : Nat) : zrJ c n ≤ n := by unfold zrJ; split <;> omega
theorem BoA.val {b : Bool} {m n : Nat} {lf lo : Nat → Int} {c : Int} {W : World} {e : Ending} (h : BoA b m n lf lo c W e) :
    ∃ a' c', e = .returned (.tuple #[.slice a' (zrJ c m) c', .int .i64 c]) ∧ GAt W a' (zrJ c m) (boN lf m (owN lo (thN (enB m lf) m) n)) ∧ (c = 0 → b = true ∧ n = (thN (enB m lf) m).length ∧ LdOk n lo) := by
  rcases h with ⟨h, rfl⟩ | ⟨rfl, hb, hn, hl, a', c', rfl, h⟩
  · have e : zrJ c m = 0 := by unfold zrJ; rw [if_neg h]
    rw [e]
    exact ⟨none, 0, rfl, fun k hk => by omega, fun q => absurd q h⟩
  · exact ⟨a', c', rfl, h, fun _ => ⟨hb, hn, hl⟩⟩
/-- Does a link among the first t hang from one? -/
def hgB (lf : Nat → Int) (i : Nat) : Nat → Bool
  | 0 => false
  | t + 1 => hgB lf i t || decide (lf t = (i : Int))
theorem hgB_of {lf : Nat → Int} {i : Nat} : ∀ t, hgB lf i t = true → ∃ k, k < t ∧ lf k = (i : Int)
  | 0, h => by cases h
  | t + 1, h => by
    unfold hgB at h
    simp only [Bool.or_eq_true, decide_eq_true_eq] at h
    rcases h with h | h
    · obtain ⟨k, h1, h2⟩ := hgB_of t h
      exact ⟨k, by omega, h2⟩
    · exact ⟨t, by omega, h⟩
def chS (lf bo : Nat → Int) (i : Nat) (t : Nat) : Int := sumN (fun k => if lf k = (i : Int) then bo k else 0) t
theorem chS_bd {lf bo : Nat → Int} {m : Nat} {c : Int} (h : ∀ k, k < m → 0 ≤ bo k ∧ bo k ≤ c) (hc : 0 ≤ c) (i : Nat) {t : Nat} (ht : t ≤ m) : 0 ≤ chS lf bo i t ∧ chS lf bo i t ≤ c * t := sumN_bd t (fun k hk => by
  by_cases e : lf k = (i : Int)
  · rw [if_pos e]; exact h k (by omega)
  · rw [if_neg e]; exact ⟨Int.le_refl _, hc⟩)
set_option maxRecDepth 100000 in
set_option maxHeartbeats 4000000 in
theorem gearBears_any (a : Option Addr) (n cap : Nat) (gm : Nat → List UInt8) (gl gd : Nat → Int) (gb : Nat → List UInt8) (al : Option Addr) (m capl : Nat) (lm : Nat → List UInt8) (lf : Nat → Int) (aq : Option Addr) (nq cq : Nat) (lo : Nat → Int) (w : World) (hA : ItAt w a n gm gl gd gb) (hL : LkAt w al m lm lf) (hQ : GAt w aq nq lo) (hn : n ≤ 9223372036854775807) (hm : m ≤ 9223372036854775807) (hnq : nq ≤ 9223372036854775807) (hcap : m ≤ capl) (h1 : Sht n gm) (h2 : Sht n gb) (h3 : Sht m lm) :
    Calls Tryd.prog 4 #[.slice a n cap, .slice al m capl, .slice aq nq cq] w fun e w' => e = .returned (.bool true) ∧ Below w.heap.size w w' := by
  have HM := Lib.hid (fun W (hW : Below w.heap.size w W) => many_any a n cap gm gl gd gb al m capl lm lf W (hA.on hW) (hL.on hW) hn hm)
  have P1 := Lib.hid (fun W (hW : Below w.heap.size w W) hn hm h4 => borne_say a n cap gm gl gd gb al m capl lm lf aq nq cq lo W (hA.on hW) (hL.on hW) (hQ.on hW) hn hm hcap h1 h2 h3 h4)
  have R1 := Lib.hid (fun W (hW : Below w.heap.size w W) hn hm h4 => rborne_say a n cap gm gl gd gb al m capl lm lf aq nq cq lo W (hA.on hW) (hL.on hW) (hQ.on hW) hn hm hcap h1 h2 h3 h4)
  have HFacts : Hid ((vgB n gm gl gd gb && vrB n m gm lm lf) = true → nq = (thN (enB m lf) m).length → LdOk nq lo → 1 ≤ m ∧ (∀ k, k < m → 0 ≤ boN lf m (owN lo (thN (enB m lf) m) nq) k ∧ boN lf m (owN lo (thN (enB m lf) m) nq) k ≤ 1000000 * nq) ∧ boN lf m (owN lo (thN (enB m lf) m) nq) 0 = sumN lo nq ∧ ∀ i, i < m → (∃ k, k < m ∧ lf k = (i : Int)) → boN lf m (owN lo (thN (enB m lf) m) nq) i = chS lf (boN lf m (owN lo (thN (enB m lf) m) nq)) i m) := Lib.hid (fun hb hq hl => by
    have hvr : vrB n m gm lm lf = true := by simp at hb; exact hb.2
    have hv := vr_lt hvr
    have hm1 := m_of hb
    have hE := th_mem (p := enB m lf) (m := m)
    have hN := thN_nodup (enB m lf) m
    refine ⟨hm1, fun k hk => ?_, ?_, fun i hi hc => bo_child hv (by omega) hi hc⟩
    · rw [bo_rb hv hN hE hk nq (by omega)]
      exact rb_bd (fun j hj => hl j (by omega)) k nq (by omega)
    · rw [bo_rb hv hN hE (by omega) nq (by omega)]
      exact rb_zero hv (vr_pos hvr) hE nq (by omega))
  have HL := Lib.hid hL
  have HQ := Lib.hid hQ
  clear hA hL hQ h1 h2 h3
  generalize boE (vgB n gm gl gd gb && vrB n m gm lm lf) nq lo (thN (enB m lf) m).length = c at *
  have hqI : ((nq : Nat) : Int) ≤ 9223372036854775807 := by omega
  clear hn hm hcap hnq
  go_enter Tryd.func4, Tryd.ntmps4
  go_wp2_with fail
  refine calls_after (awake_any _) ?_
  intro x1
  go_wp2_with fail
  refine (HM.out _ (by (repeat' (first | (with_reducible exact Below.refl _ _) | (with_reducible assumption) | (with_reducible refine Below.alloc ?_ ?_ _) | (with_reducible refine Below.drew ?_) | (with_reducible refine below_drewN ?_ _) | (with_reducible refine Below.setCell ?_ ?_ _) | (with_reducible refine below_after ?_ ?_ _) | (with_reducible refine below_set ?_) | (with_reducible refine After.size_le _ ?_) | (with_reducible refine size_alloc_le ?_) | (with_reducible refine size_set_le ?_) | (with_reducible refine size_drewN_le ?_) | go_size)))).mono ?_
  rintro e w2 ⟨⟨b, rfl, hbb⟩, hb2⟩
  obtain ⟨x2, rfl⟩ := after_og3 (x1.out.trans (hb2.mono x1.out.size))
  have HBB := Lib.hid hbb
  clear hb2 hbb HM
  cases b
  · have hnm := HBB.out rfl
    have hn1 : n ≤ 1000 := by omega
    have hm1 : m ≤ 1000 := by omega
    have hm40 : (m : Int) ≤ 40 := by omega
    have Hnm := Lib.hid (And.intro hn1 hm1)
    have Hz1 := Lib.hid (Nat.le_trans (zrJ_le c m) hm1)
    clear hnm hn1 hm1 HBB
    by_cases h40 : (40 : Int) < (nq : Int)
    · go_wp2
      go_ret
      exact ⟨rfl, by (repeat' (first | (with_reducible exact Below.refl _ _) | (with_reducible assumption) | (with_reducible refine Below.alloc ?_ ?_ _) | (with_reducible refine Below.drew ?_) | (with_reducible refine below_drewN ?_ _) | (with_reducible refine Below.setCell ?_ ?_ _) | (with_reducible refine below_after ?_ ?_ _) | (with_reducible refine below_set ?_) | (with_reducible refine After.size_le _ ?_) | (with_reducible refine size_alloc_le ?_) | (with_reducible refine size_set_le ?_) | (with_reducible refine size_drewN_le ?_) | go_size))⟩
    · have Hq := Lib.hid (show nq ≤ 1000 by omega)
      have hq40 : (nq : Int) ≤ 40 := by omega
      go_wp2_with fail
      refine (P1.out _ (by (repeat' (first | (with_reducible exact Below.refl _ _) | (with_reducible assumption) | (with_reducible refine Below.alloc ?_ ?_ _) | (with_reducible refine Below.drew ?_) | (with_reducible refine below_drewN ?_ _) | (with_reducible refine Below.setCell ?_ ?_ _) | (with_reducible refine below_after ?_ ?_ _) | (with_reducible refine below_set ?_) | (with_reducible refine After.size_le _ ?_) | (with_reducible refine size_alloc_le ?_) | (with_reducible refine size_set_le ?_) | (with_reducible refine size_drewN_le ?_) | go_size))) Hnm.out.1 Hnm.out.2 Hq.out).mono ?_
      rintro e w3 ⟨hr, hb3⟩
      obtain ⟨a1, k1, rfl, hi1, hf1⟩ := hr.val
      obtain ⟨x3, rfl⟩ := after_og3 (x2.out.trans (hb3.mono x2.out.size))
      have HI1 := Lib.hid hi1
      have HF1 := Lib.hid hf1
      clear hb3 hr hi1 hf1 P1
      go_wp2_with fail
      refine (R1.out _ (by (repeat' (first | (with_reducible exact Below.refl _ _) | (with_reducible assumption) | (with_reducible refine Below.alloc ?_ ?_ _) | (with_reducible refine Below.drew ?_) | (with_reducible refine below_drewN ?_ _) | (with_reducible refine Below.setCell ?_ ?_ _) | (with_reducible refine below_after ?_ ?_ _) | (with_reducible refine below_set ?_) | (with_reducible refine After.size_le _ ?_) | (with_reducible refine size_alloc_le ?_) | (with_reducible refine size_set_le ?_) | (with_reducible refine size_drewN_le ?_) | go_size))) Hnm.out.1 Hnm.out.2 Hq.out).mono ?_
      rintro e w4 ⟨hr, hb4⟩
      obtain ⟨a2, k2, rfl, hi2, hf2⟩ := hr.val
      have HIa := Lib.hid (HI1.out.on hb4)
      have HIb := Lib.hid hi2
      obtain ⟨x4, rfl⟩ := after_og3 (x3.out.trans (hb4.mono x3.out.size))
      clear hb4 hr hi2 hf2 R1 HI1
      go_wp2_with fail
      refine (sameG_any _ _ _ _ _ _ _ HIa.out HIb.out Hz1.out).mono ?_
      rintro e w5 ⟨rfl, hb5⟩
      have HI5 := Lib.hid (HIa.out.on hb5)
      obtain ⟨x5, rfl⟩ := after_og3 (x4.out.trans (hb5.mono x4.out.size))
      clear HIa HIb hb5
      by_cases h0 : c = 0
      · subst h0
        obtain ⟨q1, q2, q3⟩ := HF1.out rfl
        obtain ⟨hm1, hbd, hz, hch⟩ := HFacts.out q1 q2 q3
        have HLd := Lib.hid q3
        have HBd := Lib.hid (fun k (hk : k < m) => (show 0 ≤ boN lf m (owN lo (thN (enB m lf) m) nq) k ∧ boN lf m (owN lo (thN (enB m lf) m) nq) k ≤ 40000000 by have := hbd k hk; omega))
        have HCh := Lib.hid hch
        clear q1 q2 q3 HF1 HFacts hbd hch
        have ez : zrJ 0 m = m := rfl
        rw [ez] at HI5 ⊢
        clear ez
        generalize boN lf m (owN lo (thN (enB m lf) m) nq) = bo at *
        have HZ := Lib.hid hz
        clear hz
        go_wp2
        go_loopw [11, 12] (fun s i W => ∃ k : Nat, k ≤ nq ∧ i = .int .i64 k ∧ s = .int .i64 (sumN lo k) ∧ W = x5.w) (fun _ i _ => nq - (intOf i).toNat)
        case atStart => exact ⟨0, Nat.zero_le _, rfl, rfl, rfl⟩
        case round =>
          obtain ⟨k, hk, rfl, rfl, rfl⟩ := hrel
          have hsb := sumN_bd k (fun i hi => HLd.out i (by omega))
          by_cases hlt : k < nq
          · have hlti : (k : Int) < (nq : Int) := by omega
            obtain ⟨bq, offq, rfl, hbq, q0⟩ := (HQ.out.on (by (repeat' (first | (with_reducible exact Below.refl _ _) | (with_reducible assumption) | (with_reducible refine Below.alloc ?_ ?_ _) | (with_reducible refine Below.drew ?_) | (with_reducible refine below_drewN ?_ _) | (with_reducible refine Below.setCell ?_ ?_ _) | (with_reducible refine below_after ?_ ?_ _) | (with_reducible refine below_set ?_) | (with_reducible refine After.size_le _ ?_) | (with_reducible refine size_alloc_le ?_) | (with_reducible refine size_set_le ?_) | (with_reducible refine size_drewN_le ?_) | go_size)) : Below w.heap.size w x5.w)) k hlt
            have hlk := HLd.out k hlt
            have HS : Hid (sumN lo (k + 1) = sumN lo k + lo k) := Lib.hid rfl
            generalize sumN lo k = s at *
            generalize lo k = lok at *
            go_wp2
            go_roundw
            case rel => exact ⟨k + 1, by omega, by go_num, by rw [HS.out], by first | rfl | trivial⟩
            case measure => simp [intOf]; omega
          · obtain rfl : k = nq := by omega
            rw [← HZ.out]
            obtain ⟨b0, off0, rfl, hb0, z0⟩ := HI5.out 0 (by omega)
            rw [Nat.add_zero] at z0
            have hm0 : (0 : Int) < (m : Int) := by omega
            go_wp2
            go_loopw [13] (fun i W => ∃ t : Nat, t ≤ m ∧ i = .int .i64 t ∧ W = x5.w) (fun i _ => m - (intOf i).toNat)
            case atStart => exact ⟨0, Nat.zero_le _, rfl, rfl⟩
            case round =>
              obtain ⟨t, ht, rfl, rfl⟩ := hrel
              by_cases htm : t < m
              · have htI : (t : Int) < (m : Int) := by omega
                go_wp2
                go_loopw [14, 15, 16] (fun s h j W => ∃ r : Nat, r ≤ m ∧ j = .int .i64 r ∧ s = .int .i64 (chS lf bo t r) ∧ h = .bool (hgB lf t r) ∧ W = x5.w) (fun _ _ j _ => m - (intOf j).toNat)
                case atStart => exact ⟨0, Nat.zero_le _, rfl, rfl, rfl, rfl⟩
                case round =>
                  obtain ⟨r, hr, rfl, rfl, rfl, rfl⟩ := hrel
                  have hsb := chS_bd (lf := lf) HBd.out (by omega) t hr
                  by_cases hrm : r < m
                  · have hrI : (r : Int) < (m : Int) := by omega
                    obtain ⟨bl, offl, rfl, hbl, l0, l1⟩ := (HL.out.on (by (repeat' (first | (with_reducible exact Below.refl _ _) | (with_reducible assumption) | (with_reducible refine Below.alloc ?_ ?_ _) | (with_reducible refine Below.drew ?_) | (with_reducible refine below_drewN ?_ _) | (with_reducible refine Below.setCell ?_ ?_ _) | (with_reducible refine below_after ?_ ?_ _) | (with_reducible refine below_set ?_) | (with_reducible refine After.size_le _ ?_) | (with_reducible refine size_alloc_le ?_) | (with_reducible refine size_set_le ?_) | (with_reducible refine size_drewN_le ?_) | go_size)) : Below w.heap.size w x5.w)) r hrm
                    obtain ⟨bb, offb, eb, hbb, p0⟩ := HI5.out r hrm
                    cases eb
                    have hbr := HBd.out r hrm
                    have HS : Hid (chS lf bo t (r + 1) = chS lf bo t r + if lf r = (t : Int) then bo r else 0) := Lib.hid rfl
                    have HG : Hid (hgB lf t (r + 1) = (hgB lf t r || decide (lf r = (t : Int)))) := Lib.hid rfl
                    by_cases he : lf r = (t : Int)
                    · rw [if_pos he] at HS
                      rw [decide_eq_true he, Bool.or_true] at HG
                      rw [he] at l1
                      clear he
                      generalize chS lf bo t r = s at *
                      generalize bo r = br at *
                      go_wp2
                      go_roundw
                      case rel => exact ⟨r + 1, by omega, by go_num, by rw [HS.out], by rw [HG.out], by first | rfl | trivial⟩
                      case measure => simp [intOf]; omega
                    · rw [if_neg he, Int.add_zero] at HS
                      rw [decide_eq_false he, Bool.or_false] at HG
                      have hneq : (lf r == ((t : Nat) : Int)) = false := by simp [he]
                      clear he
                      generalize chS lf bo t r = s at *
                      generalize hgB lf t r = hh at *
                      go_wp2
                      go_roundw
                      case rel => exact ⟨r + 1, by omega, by go_num, by rw [HS.out], by rw [HG.out], by first | rfl | trivial⟩
                      case measure => simp [intOf]; omega
                  · obtain rfl : r = m := by omega
                    cases hg : hgB lf t r
                    · clear hg
                      go_wp2
                      go_roundw
                      case rel => exact ⟨t + 1, by omega, by go_num, by first | rfl | trivial⟩
                      case measure => simp [intOf]; omega
                    · have hch := HCh.out t htm (hgB_of r hg)
                      obtain ⟨bb, offb, eb, hbb, p0⟩ := HI5.out t htm
                      cases eb
                      rw [hch] at p0
                      clear hg hch
                      generalize chS lf bo t r = s at *
                      go_wp2
                      go_roundw
                      case rel => exact ⟨t + 1, by omega, by go_num, by first | rfl | trivial⟩
                      case measure => simp [intOf]; omega
              · obtain rfl : t = m := by omega
                go_wp2
                go_ret
                exact ⟨rfl, by (repeat' (first | (with_reducible exact Below.refl _ _) | (with_reducible assumption) | (with_reducible refine Below.alloc ?_ ?_ _) | (with_reducible refine Below.drew ?_) | (with_reducible refine below_drewN ?_ _) | (with_reducible refine Below.setCell ?_ ?_ _) | (with_reducible refine below_after ?_ ?_ _) | (with_reducible refine below_set ?_) | (with_reducible refine After.size_le _ ?_) | (with_reducible refine size_alloc_le ?_) | (with_reducible refine size_set_le ?_) | (with_reducible refine size_drewN_le ?_) | go_size))⟩
      · have hne : (c != 0) = true := by simp [h0]
        clear h0
        go_wp2
        go_ret
        exact ⟨rfl, by (repeat' (first | (with_reducible exact Below.refl _ _) | (with_reducible assumption) | (with_reducible refine Below.alloc ?_ ?_ _) | (with_reducible refine Below.drew ?_) | (with_reducible refine below_drewN ?_ _) | (with_reducible refine Below.setCell ?_ ?_ _) | (with_reducible refine below_after ?_ ?_ _) | (with_reducible refine below_set ?_) | (with_reducible refine After.size_le _ ?_) | (with_reducible refine size_alloc_le ?_) | (with_reducible refine size_set_le ?_) | (with_reducible refine size_drewN_le ?_) | go_size))⟩
  · go_wp2
    go_ret
    exact ⟨rfl, by (repeat' (first | (with_reducible exact Below.refl _ _) | (with_reducible assumption) | (with_reducible refine Below.alloc ?_ ?_ _) | (with_reducible refine Below.drew ?_) | (with_reducible refine below_drewN ?_ _) | (with_reducible refine Below.setCell ?_ ?_ _) | (with_reducible refine below_after ?_ ?_ _) | (with_reducible refine below_set ?_) | (with_reducible refine After.size_le _ ?_) | (with_reducible refine size_alloc_le ?_) | (with_reducible refine size_set_le ?_) | (with_reducible refine size_drewN_le ?_) | go_size))⟩
end Go.Proofs.YtmbjgaeofkikkaaDoor
