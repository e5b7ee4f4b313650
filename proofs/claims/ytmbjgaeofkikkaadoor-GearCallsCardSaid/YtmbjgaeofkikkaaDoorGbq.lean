/- loaded, borne and Borne of the reference. -/
import Derived.Test.YtmbjgaeofkikkaaDoorGbo
import Derived.Test.YtmbjgaeofkikkaaDoorGsr
namespace Go.Proofs.YtmbjgaeofkikkaaDoor
open Go.RowKit
attribute [local go_sem] After.cell After.frozen After.lt After.le After.ne After.ne' After.set_eq After.size_set After.lt_add tx_size tx_toList

set_option maxRecDepth 100000 in
set_option maxHeartbeats 1000000 in
theorem rloaded_any (al : Option Addr) (m capl : Nat) (lm : Nat → List UInt8) (lf : Nat → Int) (aq : Option Addr) (nq cq : Nat) (lo : Nat → Int) (w : World) (hL : LkAt w al m lm lf) (hQ : GAt w aq nq lo) (hm : m ≤ 1000) (hnq : nq ≤ 1000) :
    Calls Tryd.prog 56 #[.slice al m capl, .slice aq nq cq] w fun e w' => e = .returned (.int .i64 (brE nq lo (thN (enB m lf) m).length)) ∧ Below w.heap.size w w' := by
  have HE := Lib.hid (fun W (hW : Below w.heap.size w W) => rends_any al m capl lm lf W (hL.on hW) hm)
  have HLen := Lib.hid (thN_len (enB m lf) m)
  have HQ := Lib.hid hQ
  have hnI : (nq : Int) ≤ 1000 := by omega
  generalize thN (enB m lf) m = E at *
  have hEI : ((E.length : Nat) : Int) ≤ 1000 := by have := HLen.out; omega
  clear hL hQ
  by_cases hneq : nq = E.length
  · have hnn : ((nq : Int) != ((E.length : Nat) : Int)) = false := by simp [hneq]
    have HEq := Lib.hid hneq
    clear hneq
    go_enter Tryd.func56, Tryd.ntmps56
    go_wp2_with fail
    refine (HE.out _ (Below.refl _ _)).mono ?_
    rintro e w2 ⟨v, rfl, hO, hb2⟩
    obtain ⟨ae, ce, rfl⟩ := ownsR_shape hO
    have HB2 := Lib.hid hb2
    clear hO hb2 HE
    go_wp2
    go_loopw [5] (fun i W => ∃ k : Nat, k ≤ nq ∧ i = .int .i64 k ∧ Hid (LdOk k lo) ∧ W = w2) (fun i _ => nq - (intOf i).toNat)
    case atStart => exact ⟨0, Nat.zero_le _, rfl, Lib.hid (fun i hi => by omega), rfl⟩
    case round =>
      obtain ⟨k, hk, rfl, HLd, rfl⟩ := hrel
      by_cases hlt : k < nq
      · have hltI : (k : Int) < (nq : Int) := by omega
        obtain ⟨bq, offq, rfl, hbq, q0⟩ := (HQ.out.on HB2.out) k hlt
        by_cases hok : Btw (lo k) 0 1000000
        · have HD := Lib.hid (fun W => rwithin_any (lo k) 0 1000000 W)
          rw [decide_eq_true hok] at HD
          have HLd2 : Hid (LdOk (k + 1) lo) := Lib.hid (fun i hi => by
            by_cases e : i = k
            · subst e; exact hok
            · exact HLd.out i (by omega))
          clear hok HLd
          go_wp2_with (go_at_call 50; refine (HD.out _).mono ?_; rintro e w9 ⟨rfl, rfl⟩)
          go_roundw
          case rel => exact ⟨k + 1, by omega, by go_num, HLd2, by first | rfl | trivial⟩
          case measure => simp [intOf]; omega
        · have HD := Lib.hid (fun W => rwithin_any (lo k) 0 1000000 W)
          rw [decide_eq_false hok] at HD
          have HR : Hid (brE nq lo E.length = 7) := Lib.hid (by unfold brE; rw [if_pos HEq.out, if_neg (fun h => hok (h k hlt))])
          clear hok
          go_wp2_with (go_at_call 50; refine (HD.out _).mono ?_; rintro e w9 ⟨rfl, rfl⟩)
          go_ret
          exact ⟨by rw [HR.out]; rfl, HB2.out⟩
      · obtain rfl : k = nq := by omega
        have HR : Hid (brE k lo E.length = 0) := Lib.hid (by unfold brE; rw [if_pos HEq.out, if_pos HLd.out])
        go_wp2
        go_ret
        exact ⟨by rw [HR.out]; rfl, HB2.out⟩
  · have hnn : ((nq : Int) != ((E.length : Nat) : Int)) = true := by simp; omega
    have HR : Hid (brE nq lo E.length = 9) := Lib.hid (by unfold brE; rw [if_neg hneq])
    clear hneq
    go_enter Tryd.func56, Tryd.ntmps56
    go_wp2_with fail
    refine (HE.out _ (Below.refl _ _)).mono ?_
    rintro e w2 ⟨v, rfl, hO, hb2⟩
    obtain ⟨ae, ce, rfl⟩ := ownsR_shape hO
    have HB2 := Lib.hid hb2
    clear hO hb2 HE
    go_wp2
    go_ret
    exact ⟨by rw [HR.out]; rfl, HB2.out⟩
set_option maxRecDepth 100000 in
set_option maxHeartbeats 4000000 in
theorem rborne_any (al : Option Addr) (m capl : Nat) (lm : Nat → List UInt8) (lf : Nat → Int) (aq : Option Addr) (nq cq : Nat) (lo : Nat → Int) (w : World) (hL : LkAt w al m lm lf) (hQ : GAt w aq nq lo) (hm : m ≤ 1000) (hv : ∀ k, k < m → lf k < k ∧ -1 ≤ lf k) (hnq : nq = (thN (enB m lf) m).length) (hld : LdOk nq lo) :
    Calls Tryd.prog 57 #[.slice al m capl, .slice aq nq cq] w fun e w' => (∃ b, e = .returned (.slice (some ⟨b, 0, none⟩) m m) ∧ GRw w' b m (rbN lf m lo (thN (enB m lf) m) nq)) ∧ Below w.heap.size w w' := by
  have HE := Lib.hid (fun W (hW : Below w.heap.size w W) => rends_any al m capl lm lf W (hL.on hW) hm)
  have hlen := thN_len (enB m lf) m
  have HMem := Lib.hid (th_mem (p := enB m lf) (m := m))
  have HQ := Lib.hid hQ
  have HL := Lib.hid hL
  have HV := Lib.hid hv
  have HLd := Lib.hid hld
  have hmI : (m : Int) ≤ 1000 := by omega
  have hnI : (nq : Int) ≤ 1000 := by omega
  generalize thN (enB m lf) m = E at *
  have HEq := Lib.hid hnq
  clear hL hQ hv hld hlen
  obtain ⟨i0, hi, hz0, hz1, hz2⟩ := info_parts intInfo7
  have hmk := fun w' => run_make (P := Tryd.prog) w' 30 3 i0 _ Tryd.underlying30 hi hz0 .i64 .i64 (m : Int) (m : Int) (by omega) (by omega) (by rw [hz2]; omega) (by omega)
  rw [hz1] at hmk
  simp only [Int.toNat_natCast] at hmk
  have hEI : ((E.length : Nat) : Int) ≤ 1000 := by omega
  have hEn : ((E.length : Nat) : Int) = (nq : Int) := by omega
  clear hnq
  go_enter Tryd.func57, Tryd.ntmps57
  have G0 := grw_made w m hm
  have B0 : Below w.heap.size w (w.alloc (.cells (madeCells #[.int .i64 0] m) 3)) := (Below.refl _ w).alloc (Nat.le_refl _) _
  have HG0 := Lib.hid G0
  have HB0 := Lib.hid B0
  clear G0 B0
  go_wp2_with fail
  refine (HE.out _ HB0.out).mono ?_
  rintro e w2 ⟨v, rfl, hO, hb2⟩
  clear hmk HE
  obtain ⟨ae, ce, rfl, hen⟩ := nat_of hO
  have hB2 := HB0.out.trans (hb2.mono (by simp))
  have HB2 := Lib.hid hB2
  have HEN := Lib.hid hen
  have HG2 := Lib.hid (HG0.out.on hb2)
  have HFar := Lib.hid (owns_far hO)
  have hs2 := hB2.size
  simp only [World.size_alloc] at HFar
  clear hO hb2 hen hB2 HG0 HB0
  go_wp2
  go_loopw [7] (fun i W => ∃ k : Nat, k ≤ nq ∧ i = .int .i64 k ∧ Hid (GRw W w.heap.size m (rbN lf m lo E k)) ∧ Hid (Fr (fun j => j = w.heap.size) w2 W)) (fun i _ => nq - (intOf i).toNat)
  case atStart => exact ⟨0, Nat.zero_le _, rfl, HG2, Lib.hid (Fr.refl _)⟩
  case round =>
    obtain ⟨k, hk, rfl, HG, HF⟩ := hrel
    have HBW := Lib.hid (HB2.out.trans (HF.out.below HB2.out.size (fun j hj => by omega)))
    by_cases hlt : k < nq
    · have hltI : (k : Int) < (nq : Int) := by omega
      have hltE : (k : Int) < ((E.length : Nat) : Int) := by omega
      obtain ⟨be, offe, rfl, hbe, e0⟩ := HEN.out k (by rw [← HEq.out]; exact hlt)
      have hbef := HFar.out (by rw [← HEq.out]; omega) be offe rfl
      have e0 := HF.out.cell (p := ⟨be, offe + k, none⟩) (by dsimp only; omega) e0
      have hem : E.getD k 0 < m := HMem.out _ (by rw [List.getD_eq_getElem?_getD, List.getElem?_eq_getElem (by rw [← HEq.out]; exact hlt)]; exact List.getElem_mem _)
      have HR : Hid (∀ i, rbN lf m lo E (k + 1) i = rbN lf m lo E k i + if i ∈ upO lf m (E.getD k 0 : Nat) then lo k else 0) := Lib.hid (fun i => rfl)
      have HRb : Hid (∀ i, 0 ≤ rbN lf m lo E k i ∧ rbN lf m lo E k i ≤ 1000000 * k) := Lib.hid (fun i => rb_bd (fun j hj => HLd.out j (by rw [HEq.out]; exact hj)) i k (by rw [← HEq.out]; exact hk))
      have hlk := HLd.out k hlt
      generalize E.getD k 0 = en at *
      generalize rbN lf m lo E k = rb at *
      have henI : (en : Int) < (m : Int) := by omega
      go_wp2
      go_loopw [8] (fun i W => ∃ (x : Int) (pre : List Nat) (d : Nat), i = .int .i64 x ∧ Hid (upO lf m (en : Nat) = pre ++ upL lf d x) ∧ (-1 ≤ x ∧ x < m ∧ x < d) ∧ Hid (GRw W w.heap.size m (fun i => rb i + if i ∈ pre then lo k else 0)) ∧ Hid (Fr (fun j => j = w.heap.size) w2 W)) (fun i _ => (intOf i + 1).toNat)
      case atStart => exact ⟨_, [], m + 1, rfl, Lib.hid rfl, ⟨by omega, by omega, by omega⟩, Lib.hid (HG.out.congr (fun i _ => by simp)), HF⟩
      case round =>
        obtain ⟨x, pre, d, rfl, HP, hx, HGx, HFx⟩ := hrel
        have HBx := Lib.hid (HB2.out.trans (HFx.out.below HB2.out.size (fun j hj => by omega)))
        by_cases h0 : 0 ≤ x
        · obtain ⟨y, rfl⟩ : ∃ y : Nat, x = (y : Int) := ⟨x.toNat, by omega⟩
          obtain ⟨d, rfl⟩ : ∃ d', d = d' + 1 := ⟨d - 1, by omega⟩
          have hym : y < m := by omega
          have hyv := HV.out y hym
          have hp2 : upO lf m (en : Nat) = pre ++ y :: upL lf d (lf y) := by rw [HP.out, upL_step]
          have hny : y ∉ pre := upL_new HV.out henI hp2
          have HP2 : Hid (upO lf m (en : Nat) = (pre ++ [y]) ++ upL lf d (lf y)) := Lib.hid (by rw [hp2]; simp)
          obtain ⟨d0, d1⟩ := HGx.out.2 y hym
          dsimp only at d0
          rw [if_neg hny, Int.add_zero] at d0
          have hry := HRb.out y
          have hkI : (k : Int) ≤ 1000 := by omega
          obtain ⟨bq, offq, rfl, hbq, q0⟩ := (HQ.out.on HBx.out) k hlt
          obtain ⟨b, off, rfl, hbb, l0, l1⟩ := (HL.out.on HBx.out) y hym
          have F4 : Fr (fun j => j = w.heap.size) wr (wr.setCell ⟨w.heap.size, y, none⟩ (.int .i64 (rb y + lo k))).drew := (Fr.setCell (M := fun j => j = w.heap.size) (Fr.refl wr) (p := ⟨w.heap.size, y, none⟩) (.inl rfl) _).drew
          have FIN : Hid (GRw (wr.setCell ⟨w.heap.size, y, none⟩ (.int .i64 (rb y + lo k))).drew w.heap.size m (fun i => rb i + if i ∈ pre ++ [y] then lo k else 0) ∧ Fr (fun j => j = w.heap.size) w2 (wr.setCell ⟨w.heap.size, y, none⟩ (.int .i64 (rb y + lo k))).drew) := Lib.hid ⟨HGx.out.set (rb y + lo k) (fun i _ => by
            by_cases e : i = y
            · subst e; simp
            · simp [e]), HFx.out.then F4 (fun _ _ h _ => h)⟩
          have hbo : b ≠ w.heap.size := by
            have := lk_block HL.out b off rfl (by omega)
            omega
          have l1 : (wr.setCell ⟨w.heap.size, y, none⟩ (.int .i64 (rb y + lo k))).drew.cell? ⟨b, off + y * 2 + 1, none⟩ = some (.int .i64 (lf y)) := F4.cell (p := ⟨b, off + y * 2 + 1, none⟩) hbo l1
          have hw : IntKind.i64.wrap (rb y + lo k) = rb y + lo k := by rw [IntKind.wrap_i64]; omega
          generalize rb y = rby at *
          generalize lf y = lfy at *
          generalize lo k = lok at *
          clear F4 hp2 hny HP
          go_wp2
          go_region
          all_goals
            go_wp2
            trace_state
            go_roundw
            case rel => exact ⟨_, pre ++ [y], d, rfl, HP2, ⟨by omega, by omega, by omega⟩, FIN.out.1, FIN.out.2⟩
            case measure => simp [intOf]; omega
        · have hx1 : x = -1 := by omega
          have HU : Hid (upO lf m (en : Nat) = pre) := Lib.hid (by rw [HP.out, upL_end lf (by omega), List.append_nil])
          subst hx1
          clear HP
          go_wp2
          go_roundw
          case rel => exact ⟨k + 1, by omega, by go_num, Lib.hid (HGx.out.congr (fun i _ => by rw [HR.out, HU.out])), HFx⟩
          case measure => simp [intOf]; omega
    · obtain rfl : k = nq := by omega
      go_wp2
      go_ret
      exact ⟨⟨_, rfl, HG.out⟩, HBW.out⟩
end Go.Proofs.YtmbjgaeofkikkaaDoor
