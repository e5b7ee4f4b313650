/- open: a rig with its items. -/
import Derived.Test.YtkgfaemdgmmdkaaGreatDoorGxGvr
import Derived.Deep.RegionHeld3
import Derived.Deep.RegionLaw
namespace Go.Proofs.YtkgfaemdgmmdkaaGreatDoor.Gx
open Go.Proofs.YtkgfaemdgmmdkaaGreatDoor
open Go.RowKit Go.Maps
attribute [local go_sem] After.cell After.frozen After.lt After.le After.ne After.ne' After.set_eq After.size_set After.lt_add tx_size tx_toList

theorem obj_lt {W : World} {b : Nat} {o : Obj} (h : W.heap[b]? = some o) : b < W.heap.size := (Array.getElem?_eq_some_iff.1 h).1
theorem obj_on {W W' : World} {b : Nat} {o : Obj} (h : W.heap[b]? = some o) (hb : Below W.heap.size W W') : W'.heap[b]? = some o := (hb.block b (obj_lt h)).trans h
theorem ownsR_stay {W W' : World} {B : Nat} {T : TypeId} {c n : Nat} {v : Value} {xs : List Value} (h : W.ownsRow B T c v n xs) (hb : Below W.heap.size W W') : W'.ownsRow B T c v n xs := by
  obtain ⟨q1, q2 | ⟨g', cap', cur, a1, a2, a3, a4⟩⟩ := h
  · exact ⟨q1, .inl q2⟩
  · exact ⟨q1, .inr ⟨g', cap', cur, a1, a2, (hb.block g' (Array.getElem?_eq_some_iff.1 a3).1).trans a3, a4⟩⟩
theorem ownsR_far {W : World} {B r i : Nat} {T : TypeId} {c n : Nat} {v u : Value} {xs : List Value} (h : W.ownsRow B T c v n xs) (hr : r < B) : (W.setCell ⟨r, i, none⟩ u).ownsRow B T c v n xs := by
  have hl := h.lt
  obtain ⟨q1, q2 | ⟨g', cap', cur, a1, a2, a3, a4⟩⟩ := h
  · exact ⟨q1, .inl q2⟩
  · exact ⟨q1, .inr ⟨g', cap', cur, a1, a2, by rw [heap_setCell_other _ _ _ _ (show g' ≠ r by omega)]; exact a3, a4⟩⟩
theorem mapFar {H : Type} {P : Program} {k : TypeId} {R : Value → Option (DataW H × List MemPlace)} {W : World} {b n r i : Nat} {u : Value} {D : DataW H} (h : W.ownsMap P k R b n D) (hr : r ≠ b) : (W.setCell ⟨r, i, none⟩ u).ownsMap P k R b n D := by
  obtain ⟨es, clock, h1, F, hs, hD⟩ := h
  exact ⟨es, clock, by rw [heap_setCell_other _ _ _ _ (show b ≠ r from fun e => hr e.symm)]; exact h1, F, hs, hD⟩
/-- An item's cells. -/
def itv (gm : Nat → List UInt8) (gl gd : Nat → Int) (gb : Nat → List UInt8) (j : Nat) : List Value := [.string (tx (gm j)), .int .i64 (gl j), .int .i64 (gd j), .string (tx (gb j))]
/-- The cells of k items. -/
def itc (gm : Nat → List UInt8) (gl gd : Nat → Int) (gb : Nat → List UInt8) (x : Nat → Nat) : Nat → List Value
  | 0 => []
  | k + 1 => itc gm gl gd gb x k ++ itv gm gl gd gb (x k)
section
variable {gm : Nat → List UInt8} {gl gd : Nat → Int} {gb : Nat → List UInt8} {x : Nat → Nat}
theorem itc_len : ∀ k, (itc gm gl gd gb x k).length = k * 4
  | 0 => rfl
  | k + 1 => by unfold itc; rw [List.length_append, itc_len k]; simp [itv]; omega
theorem itc_get {k i c : Nat} (hi : i < k) (hc : c < 4) : (itc gm gl gd gb x k)[i * 4 + c]? = (itv gm gl gd gb (x i))[c]? := by
  induction k with
  | zero => omega
  | succ k ih =>
    unfold itc
    by_cases e : i < k
    · rw [List.getElem?_append_left (by rw [itc_len]; omega)]
      exact ih e
    · obtain rfl : i = k := by omega
      rw [List.getElem?_append_right (by rw [itc_len]; omega), itc_len]
      congr 1
      omega
end
theorem itInfo : (Tryz.prog.info? 33).map (fun i => (i.zero, i.size, i.bytes)) = some (some (.agg #[.string ByteArray.empty, .int .i64 0, .int .i64 0, .string ByteArray.empty]), 4, 48) := by kernel_rfl
/-- The item of the i-th link. -/
def ixO (n : Nat) (gm lm : Nat → List UInt8) (i : Nat) : Nat := (fdN gm n (lm i)).getD 0
/-- What open answers. -/
def OpR (b : Bool) (n : Nat) (gm : Nat → List UInt8) (gl gd : Nat → Int) (gb : Nat → List UInt8) (al : Option Addr) (m capl : Nat) (lm : Nat → List UInt8) (w' : World) (e : Ending) : Prop := match b with
  | true => ∃ a2 c2, e = .returned (.tuple #[.agg #[.slice al m capl, .slice a2 m c2], .bool true]) ∧ ItAt w' a2 m (fun i => gm (ixO n gm lm i)) (fun i => gl (ixO n gm lm i)) (fun i => gd (ixO n gm lm i)) (fun i => gb (ixO n gm lm i))
  | false => e = .returned (.tuple #[.agg #[.slice none 0 0, .slice none 0 0], .bool false])
theorem itAt_of {W : World} {B g cap m : Nat} {gm : Nat → List UInt8} {gl gd : Nat → Int} {gb : Nat → List UInt8} {x : Nat → Nat} (h : W.ownsRow B 33 4 (.slice (some ⟨g, 0, none⟩) m cap) m (itc gm gl gd gb x m)) : ItAt W (some ⟨g, 0, none⟩) m (fun i => gm (x i)) (fun i => gl (x i)) (fun i => gd (x i)) (fun i => gb (x i)) := fun k hk => by
  refine ⟨g, 0, rfl, (h.lt g rfl).2, ?_, ?_, ?_, ?_⟩
  · rw [Nat.zero_add, h.cellAt _ (by omega)]; exact itc_get hk (c := 0) (by omega)
  · rw [Nat.zero_add, h.cellAt _ (by omega)]; exact itc_get hk (c := 1) (by omega)
  · rw [Nat.zero_add, h.cellAt _ (by omega)]; exact itc_get hk (c := 2) (by omega)
  · rw [Nat.zero_add, h.cellAt _ (by omega)]; exact itc_get hk (c := 3) (by omega)
section
variable (a : Option Addr) (n cap : Nat) (gm : Nat → List UInt8) (gl gd : Nat → Int) (gb : Nat → List UInt8) (al : Option Addr) (m capl : Nat) (lm : Nat → List UInt8) (lf : Nat → Int) (w : World) (hA : ItAt w a n gm gl gd gb) (hL : LkAt w al m lm lf) (hn : n ≤ 1000) (hm : m ≤ 1000) (hcap : m ≤ capl) (h1 : Sht n gm) (h2 : Sht n gb) (h3 : Sht m lm)
include hA hL hn hm hcap h1 h2 h3
set_option maxRecDepth 100000 in
set_option maxHeartbeats 4000000 in
theorem open_any : Calls Tryz.prog 28 #[.slice a n cap, .slice al m capl] w fun e w' => OpR (vgB n gm gl gd gb && vrB n m gm lm lf) n gm gl gd gb al m capl lm w' e ∧ Below w.heap.size w w' := by
  have hmI : (m : Int) ≤ 1000 := by omega
  have HA := Lib.hid hA
  have HL := Lib.hid hL
  have HB := Lib.hid (fun W (hW : Below w.heap.size w W) => byMark_any a n cap gm gl gd gb W (hA.on hW) hn h1 h2)
  have HM := Lib.hid (And.intro h3 hcap)
  have HN := Lib.hid (And.intro hn hm)
  clear hA hL h1 h2 h3 hn hm hcap
  cases hv : vgB n gm gl gd gb
  · rw [hv] at HB
    clear hv
    go_enter Tryz.func28, Tryz.ntmps28
    go_wp2_with fail
    refine (HB.out _ (by (repeat' (first | (with_reducible exact Below.refl _ _) | (with_reducible assumption) | (with_reducible refine Below.alloc ?_ ?_ _) | (with_reducible refine Below.drew ?_) | (with_reducible refine below_drewN ?_ _) | (with_reducible refine Below.setCell ?_ ?_ _) | (with_reducible refine below_after ?_ ?_ _) | (with_reducible refine below_set ?_) | (with_reducible refine After.size_le _ ?_) | (with_reducible refine size_alloc_le ?_) | (with_reducible refine size_set_le ?_) | (with_reducible refine size_drewN_le ?_) | go_size)))).mono ?_
    rintro e w2 ⟨hr, hb2⟩
    obtain rfl : e = _ := hr
    obtain ⟨x, rfl⟩ : ∃ x : After (w.alloc (.cells #[.slice none 0 0, .slice none 0 0] 68)), w2 = x.w := ⟨⟨_, hb2⟩, rfl⟩
    clear hb2
    have r0 : x.w.cell? ⟨w.heap.size, 0, none⟩ = some (.slice none 0 0) := (x.cell _ (by simp)).trans (by simp [go_sem])
    have r1 : x.w.cell? ⟨w.heap.size, 1, none⟩ = some (.slice none 0 0) := (x.cell _ (by simp)).trans (by simp [go_sem])
    go_wp2
    obtain ⟨w0, w1⟩ := x.set2 (r := w.heap.size) (.slice none 0 0) (.slice none 0 0) r0 r1
    refine bodyPost_ret (v := .tuple #[.agg #[.slice none 0 0, .slice none 0 0], .bool false]) (by simp [results, Tryz.results28, go_sem, w0, w1]) rfl ⟨rfl, ?_⟩
    (repeat' (first | (with_reducible exact Below.refl _ _) | (with_reducible assumption) | (with_reducible refine Below.alloc ?_ ?_ _) | (with_reducible refine Below.drew ?_) | (with_reducible refine below_drewN ?_ _) | (with_reducible refine Below.setCell ?_ ?_ _) | (with_reducible refine below_after ?_ ?_ _) | (with_reducible refine below_set ?_) | (with_reducible refine After.size_le _ ?_) | (with_reducible refine size_alloc_le ?_) | (with_reducible refine size_set_le ?_) | (with_reducible refine size_drewN_le ?_) | go_size))
  · have HVd : Hid (∀ i, i < n → ∀ j, j < i → gm j ≠ gm i) := Lib.hid fun i hi j hj => ((vgB_of hv).2 i hi).2 j hj
    rw [hv] at HB
    clear hv
    go_enter Tryz.func28, Tryz.ntmps28
    go_wp2_with fail
    refine (HB.out _ (by (repeat' (first | (with_reducible exact Below.refl _ _) | (with_reducible assumption) | (with_reducible refine Below.alloc ?_ ?_ _) | (with_reducible refine Below.drew ?_) | (with_reducible refine below_drewN ?_ _) | (with_reducible refine Below.setCell ?_ ?_ _) | (with_reducible refine below_after ?_ ?_ _) | (with_reducible refine below_set ?_) | (with_reducible refine After.size_le _ ?_) | (with_reducible refine size_alloc_le ?_) | (with_reducible refine size_set_le ?_) | (with_reducible refine size_drewN_le ?_) | go_size)))).mono ?_
    rintro e w2 ⟨⟨B, rfl, hBw, hO⟩, hb2⟩
    obtain ⟨x, rfl⟩ : ∃ x : After (w.alloc (.cells #[.slice none 0 0, .slice none 0 0] 68)), w2 = x.w := ⟨⟨_, hb2⟩, rfl⟩
    have HO := Lib.hid hO
    clear hb2 hO HB
    have hW := fun b W (h : decide (Btw (m : Nat) 1 32) = b) => between_b (m : Nat) 1 32 W h
    by_cases hmm : 1 ≤ m ∧ m ≤ 32
    · have hW1 := fun W => hW true W (decide_eq_true (by unfold Btw; omega))
      have hmm' := Lib.hid hmm
      clear hW hmm
      go_wp2_with (go_at_call 30; refine (hW1 _).mono ?_; rintro e w' ⟨rfl, rfl⟩)
      have hBne : w.heap.size ≠ B := by simp at hBw; omega
      have HBX : Hid (Below w.heap.size w x.w) := Lib.hid (by (repeat' (first | (with_reducible exact Below.refl _ _) | (with_reducible assumption) | (with_reducible refine Below.alloc ?_ ?_ _) | (with_reducible refine Below.drew ?_) | (with_reducible refine below_drewN ?_ _) | (with_reducible refine Below.setCell ?_ ?_ _) | (with_reducible refine below_after ?_ ?_ _) | (with_reducible refine below_set ?_) | (with_reducible refine After.size_le _ ?_) | (with_reducible refine size_alloc_le ?_) | (with_reducible refine size_set_le ?_) | (with_reducible refine size_drewN_le ?_) | go_size)))
      have HRX : Hid (x.w.heap[w.heap.size]? = some (.cells #[.slice none 0 0, .slice none 0 0] 68 (0, 0))) := Lib.hid (obj_on (heap_alloc_new w _) x.out)
      clear hBw
      generalize x.w = X at *
      obtain ⟨i0, hi, hz0, hz1, hz2⟩ := info_parts itInfo
      go_loopw [5, 7, 8, 9, 10, 27] (fun o _ _ _ _ i W => ∃ k : Nat, k ≤ m ∧ i = .int .i64 k ∧ o = .bool true ∧ Hid (VrT n k gm lm lf) ∧ ∃ v, Hid (W.heap[w.heap.size]? = some (.cells #[.slice none 0 0, v] 68 (0, 0))) ∧ Hid (W.ownsRow X.heap.size 33 4 v k (itc gm gl gd gb (ixO n gm lm) k)) ∧ Hid (Om W B n gm) ∧ Hid (Below w.heap.size w W) ∧ Hid (X.heap.size ≤ W.heap.size)) (fun _ _ _ _ _ i _ => m - (intOf i).toNat)
      case atStart => exact ⟨0, Nat.zero_le _, rfl, rfl, Lib.hid vrT_zero, _, HRX, Lib.hid (World.ownsRow_nil _ _ _ _), HO, HBX, Lib.hid (Nat.le_refl _)⟩
      case round =>
        obtain ⟨k, hk, rfl, rfl, HT, v, HR, HI, HOm, HBk, HXs⟩ := hrel
        by_cases hlt : k < m
        · have hlti : (k : Int) < (m : Int) := by omega
          obtain ⟨b, off, rfl, hb, c0, c1⟩ := (HL.out.on HBk.out) k hlt
          have RW1 : (wr.alloc (.cells #[.string (tx (lm k)), .int .i64 (lf k)] 35)).heap[w.heap.size]? = some (.cells #[.slice none 0 0, v] 68 (0, 0)) := obj_on HR.out ((Below.refl _ wr).alloc (Nat.le_refl _) _)
          have hOa := Lib.hid (HOm.out.alloc (.cells #[.string (tx (lm k)), .int .i64 (lf k)] 35))
          have hkey := key_tx (HM.out.1 k hlt)
          have HNo := Lib.hid (fun h => vr_not (n := n) (gm := gm) (lm := lm) (lf := lf) hlt h)
          have hlb := obj_lt RW1
          have zf0 : wr.frozen? ⟨w.heap.size, 0, none⟩ = false := frozen_of_row wr _ 0 _ _ HR.out
          have zf1 : wr.frozen? ⟨w.heap.size, 1, none⟩ = false := frozen_of_row wr _ 1 _ _ HR.out
          have hlw := obj_lt HR.out
          have zc0 : wr.cell? ⟨w.heap.size, 0, none⟩ = some (.slice none 0 0) := by rw [cell_of_row wr _ _ _ _ (0, 0) HR.out]; rfl
          have zc1 : wr.cell? ⟨w.heap.size, 1, none⟩ = some v := by rw [cell_of_row wr _ _ _ _ (0, 0) HR.out]; rfl
          have hb' := Nat.lt_succ_of_lt hb
          cases hf : fdN gm n (lm k)
          case none =>
            have hhas : Maps.has (Dm gm n) (.string (lm k)) = false := by rw [dm_has, hf]; rfl
            have HQ := Lib.hid (HNo.out (fun h => h.1 hf))
            clear hf
            go_wp2_with (at_lookup; refine wpList_lookup_own_ok_int _ rfl _ _ 74 rfl 9 3 .i64 lawS Tryz.underlying74 Tryz.underlying3 (zeroE _) B n _ rfl hOa.out _ _ rfl hkey ?_; intro c hat hwc; clear hat hwc)
            refine wp_region_after (by kernel_rfl) (by kernel_rfl) ?_; (repeat (first | go_big_quiet_step ((fail)) | (refine wpQuiet_step (fun K hK => ?_); go_simp; first | (refine hK _ ?_; clear hK K) | (apply Exists.intro; refine ⟨fun x => ?_, hK _ ?_⟩; (fail); clear hK K)))); refine wpQuiet_nil ?_
            intro y
            have RY := obj_on RW1 y.out
            have r0 : y.w.cell? ⟨w.heap.size, 0, none⟩ = some (.slice none 0 0) := by rw [cell_of_row y.w _ _ _ _ (0, 0) RY]; rfl
            have r1 : y.w.cell? ⟨w.heap.size, 1, none⟩ = some v := by rw [cell_of_row y.w _ _ _ _ (0, 0) RY]; rfl
            have HB0 := HBk.out
            have HBs := HB0.size
            clear RY RW1
            go_wp2
            obtain ⟨w0, w1⟩ := y.set2 (r := w.heap.size) (.slice none 0 0) (.slice none 0 0) r0 r1
            refine bodyPost_ret (v := .tuple #[.agg #[.slice none 0 0, .slice none 0 0], .bool false]) (by simp [results, Tryz.results28, go_sem, w0, w1]) rfl ⟨by rw [HQ.out]; rfl, ?_⟩
            (repeat' (first | (with_reducible exact Below.refl _ _) | (with_reducible assumption) | (with_reducible refine Below.alloc ?_ ?_ _) | (with_reducible refine Below.drew ?_) | (with_reducible refine below_drewN ?_ _) | (with_reducible refine Below.setCell ?_ ?_ _) | (with_reducible refine below_after ?_ ?_ _) | (with_reducible refine below_set ?_) | (with_reducible refine After.size_le _ ?_) | (with_reducible refine size_alloc_le ?_) | (with_reducible refine size_set_le ?_) | (with_reducible refine size_drewN_le ?_) | go_size))
          case some j =>
            have hhas : Maps.has (Dm gm n) (.string (lm k)) = true := by rw [dm_has, hf]; rfl
            have hat0 := dm_at (.lit (.int .i64 0)) HVd.out hf
            have HSome : Hid (fdN gm n (lm k) ≠ none) := Lib.hid (by rw [hf]; exact fun h => by cases h)
            have HJ : Hid (j < n ∧ ixO n gm lm k = j) := Lib.hid ⟨(fdN_some.1 hf).1, by unfold ixO; rw [hf]; rfl⟩
            have HMh : Hid (∀ W, Calls Tryz.prog 43 #[.int .i64 k, .int .i64 (lf k)] W fun e w' => e = .returned (.bool (mhB k (lf k))) ∧ Below W.heap.size W w') := Lib.hid (fun W => (mayHang_any k (lf k) (by have := HN.out; omega) W).mono fun e w' h => ⟨h.1, by rw [← h.2]; exact Below.refl _ _⟩)
            have HHas := Lib.hid (fun W (hW : Below w.heap.size w W) => has_any (some ⟨b, off, none⟩) k capl lm lf (lm k) W ((HL.out.on hW).less (by omega)) (by have := HN.out; omega))
            have hkc : (k : Int) ≤ (capl : Int) := by have := HM.out.2; omega
            clear hf
            cases hmh : mhB k (lf k)
            · have HQ := Lib.hid (HNo.out (fun h => by have h3 := h.2.1; rw [hmh] at h3; cases h3))
              rw [hmh] at HMh
              clear hmh
              go_wp2_with (at_lookup; refine wpList_lookup_own_ok_int _ rfl _ _ 74 rfl 9 3 .i64 lawS Tryz.underlying74 Tryz.underlying3 (zeroE _) B n _ rfl hOa.out _ _ rfl hkey ?_; intro c hat hwc; (obtain rfl : ((j : Nat) : Int) = c := (by rw [hat0] at hat; simpa using hat)); clear hat hwc)
              refine wp_region_after (by kernel_rfl) (by kernel_rfl) ?_; (repeat (first | go_big_quiet_step ((first | (go_at_call 43; exact quiet_after (HMh.out _)))) | (refine wpQuiet_step (fun K hK => ?_); go_simp; first | (refine hK _ ?_; clear hK K) | (apply Exists.intro; refine ⟨fun x => ?_, hK _ ?_⟩; (first | (go_at_call 43; exact quiet_after (HMh.out _))); clear hK K)))); refine wpQuiet_nil ?_
              intro y
              have RY := obj_on RW1 y.out
              have r0 : y.w.cell? ⟨w.heap.size, 0, none⟩ = some (.slice none 0 0) := by rw [cell_of_row y.w _ _ _ _ (0, 0) RY]; rfl
              have r1 : y.w.cell? ⟨w.heap.size, 1, none⟩ = some v := by rw [cell_of_row y.w _ _ _ _ (0, 0) RY]; rfl
              have HB0 := HBk.out
              have HBs := HB0.size
              clear RY RW1
              go_wp2
              obtain ⟨w0, w1⟩ := y.set2 (r := w.heap.size) (.slice none 0 0) (.slice none 0 0) r0 r1
              refine bodyPost_ret (v := .tuple #[.agg #[.slice none 0 0, .slice none 0 0], .bool false]) (by simp [results, Tryz.results28, go_sem, w0, w1]) rfl ⟨by rw [HQ.out]; rfl, ?_⟩
              (repeat' (first | (with_reducible exact Below.refl _ _) | (with_reducible assumption) | (with_reducible refine Below.alloc ?_ ?_ _) | (with_reducible refine Below.drew ?_) | (with_reducible refine below_drewN ?_ _) | (with_reducible refine Below.setCell ?_ ?_ _) | (with_reducible refine below_after ?_ ?_ _) | (with_reducible refine below_set ?_) | (with_reducible refine After.size_le _ ?_) | (with_reducible refine size_alloc_le ?_) | (with_reducible refine size_set_le ?_) | (with_reducible refine size_drewN_le ?_) | go_size))
            · rw [hmh] at HMh
              cases hd : fdN lm k (lm k)
              case some t =>
                have HQ := Lib.hid (HNo.out (fun h => by have h3 := h.2.2; rw [hd] at h3; cases h3))
                rw [hd] at HHas
                clear hmh hd
                have HB0 := HBk.out
                have HBs := HB0.size
                go_wp2_with (at_lookup; refine wpList_lookup_own_ok_int _ rfl _ _ 74 rfl 9 3 .i64 lawS Tryz.underlying74 Tryz.underlying3 (zeroE _) B n _ rfl hOa.out _ _ rfl hkey ?_; intro c hat hwc; (obtain rfl : ((j : Nat) : Int) = c := (by rw [hat0] at hat; simpa using hat)); clear hat hwc)
                refine wp_region_after (by kernel_rfl) (by kernel_rfl) ?_; (repeat (first | go_big_quiet_step ((first | (go_at_call 43; exact quiet_after (HMh.out _)) | (go_at_call 44; exact quiet_after (HHas.out _ (by (repeat' (first | (with_reducible exact Below.refl _ _) | (with_reducible assumption) | (with_reducible refine Below.alloc ?_ ?_ _) | (with_reducible refine Below.drew ?_) | (with_reducible refine below_drewN ?_ _) | (with_reducible refine Below.setCell ?_ ?_ _) | (with_reducible refine below_after ?_ ?_ _) | (with_reducible refine below_set ?_) | (with_reducible refine After.size_le _ ?_) | (with_reducible refine size_alloc_le ?_) | (with_reducible refine size_set_le ?_) | (with_reducible refine size_drewN_le ?_) | go_size))))))) | (refine wpQuiet_step (fun K hK => ?_); go_simp; first | (refine hK _ ?_; clear hK K) | (apply Exists.intro; refine ⟨fun x => ?_, hK _ ?_⟩; (first | (go_at_call 43; exact quiet_after (HMh.out _)) | (go_at_call 44; exact quiet_after (HHas.out _ (by (repeat' (first | (with_reducible exact Below.refl _ _) | (with_reducible assumption) | (with_reducible refine Below.alloc ?_ ?_ _) | (with_reducible refine Below.drew ?_) | (with_reducible refine below_drewN ?_ _) | (with_reducible refine Below.setCell ?_ ?_ _) | (with_reducible refine below_after ?_ ?_ _) | (with_reducible refine below_set ?_) | (with_reducible refine After.size_le _ ?_) | (with_reducible refine size_alloc_le ?_) | (with_reducible refine size_set_le ?_) | (with_reducible refine size_drewN_le ?_) | go_size)))))); clear hK K)))); refine wpQuiet_nil ?_
                intro y
                have RY := obj_on RW1 y.out
                have r0 : y.w.cell? ⟨w.heap.size, 0, none⟩ = some (.slice none 0 0) := by rw [cell_of_row y.w _ _ _ _ (0, 0) RY]; rfl
                have r1 : y.w.cell? ⟨w.heap.size, 1, none⟩ = some v := by rw [cell_of_row y.w _ _ _ _ (0, 0) RY]; rfl
                clear RY RW1
                go_wp2
                obtain ⟨w0, w1⟩ := y.set2 (r := w.heap.size) (.slice none 0 0) (.slice none 0 0) r0 r1
                refine bodyPost_ret (v := .tuple #[.agg #[.slice none 0 0, .slice none 0 0], .bool false]) (by simp [results, Tryz.results28, go_sem, w0, w1]) rfl ⟨by rw [HQ.out]; rfl, ?_⟩
                (repeat' (first | (with_reducible exact Below.refl _ _) | (with_reducible assumption) | (with_reducible refine Below.alloc ?_ ?_ _) | (with_reducible refine Below.drew ?_) | (with_reducible refine below_drewN ?_ _) | (with_reducible refine Below.setCell ?_ ?_ _) | (with_reducible refine below_after ?_ ?_ _) | (with_reducible refine below_set ?_) | (with_reducible refine After.size_le _ ?_) | (with_reducible refine size_alloc_le ?_) | (with_reducible refine size_set_le ?_) | (with_reducible refine size_drewN_le ?_) | go_size))
              case none =>
                have HG := Lib.hid (vrT_succ HT.out ⟨HSome.out, hmh, hd⟩)
                rw [hd] at HHas
                clear hmh hd
                have HB0 := HBk.out
                have HBs := HB0.size
                go_wp2_with (at_lookup; refine wpList_lookup_own_ok_int _ rfl _ _ 74 rfl 9 3 .i64 lawS Tryz.underlying74 Tryz.underlying3 (zeroE _) B n _ rfl hOa.out _ _ rfl hkey ?_; intro c hat hwc; (obtain rfl : ((j : Nat) : Int) = c := (by rw [hat0] at hat; simpa using hat)); clear hat hwc)
                refine wp_region_after (by kernel_rfl) (by kernel_rfl) ?_; (repeat (first | go_big_quiet_step ((first | (go_at_call 43; exact quiet_after (HMh.out _)) | (go_at_call 44; exact quiet_after (HHas.out _ (by (repeat' (first | (with_reducible exact Below.refl _ _) | (with_reducible assumption) | (with_reducible refine Below.alloc ?_ ?_ _) | (with_reducible refine Below.drew ?_) | (with_reducible refine below_drewN ?_ _) | (with_reducible refine Below.setCell ?_ ?_ _) | (with_reducible refine below_after ?_ ?_ _) | (with_reducible refine below_set ?_) | (with_reducible refine After.size_le _ ?_) | (with_reducible refine size_alloc_le ?_) | (with_reducible refine size_set_le ?_) | (with_reducible refine size_drewN_le ?_) | go_size))))))) | (refine wpQuiet_step (fun K hK => ?_); go_simp; first | (refine hK _ ?_; clear hK K) | (apply Exists.intro; refine ⟨fun x => ?_, hK _ ?_⟩; (first | (go_at_call 43; exact quiet_after (HMh.out _)) | (go_at_call 44; exact quiet_after (HHas.out _ (by (repeat' (first | (with_reducible exact Below.refl _ _) | (with_reducible assumption) | (with_reducible refine Below.alloc ?_ ?_ _) | (with_reducible refine Below.drew ?_) | (with_reducible refine below_drewN ?_ _) | (with_reducible refine Below.setCell ?_ ?_ _) | (with_reducible refine below_after ?_ ?_ _) | (with_reducible refine below_set ?_) | (with_reducible refine After.size_le _ ?_) | (with_reducible refine size_alloc_le ?_) | (with_reducible refine size_set_le ?_) | (with_reducible refine size_drewN_le ?_) | go_size)))))); clear hK K)))); refine wpQuiet_nil ?_
                intro y
                have RY0 := obj_on RW1 y.out
                have OY0 := ownsR_stay (HI.out.alloc (.cells #[.string (tx (lm k)), .int .i64 (lf k)] 35)) y.out
                have MY0 := mapOn hOa.out y.out
                have BY0 : Below w.heap.size w y.w := by (repeat' (first | (with_reducible exact Below.refl _ _) | (with_reducible assumption) | (with_reducible refine Below.alloc ?_ ?_ _) | (with_reducible refine Below.drew ?_) | (with_reducible refine below_drewN ?_ _) | (with_reducible refine Below.setCell ?_ ?_ _) | (with_reducible refine below_after ?_ ?_ _) | (with_reducible refine below_set ?_) | (with_reducible refine After.size_le _ ?_) | (with_reducible refine size_alloc_le ?_) | (with_reducible refine size_set_le ?_) | (with_reducible refine size_drewN_le ?_) | go_size))
                have SY0 : X.heap.size ≤ y.w.heap.size := by have h4 := HXs.out; have h5 := y.out.size; simp at h5; omega
                have HRY := Lib.hid RY0
                have HOY := Lib.hid OY0
                have HMY := Lib.hid MY0
                have HBY := Lib.hid BY0
                have HXX := Lib.hid (obj_lt HRX.out)
                have HSYX := Lib.hid SY0
                have hSY := SY0
                clear RY0 OY0 MY0 BY0 SY0 RW1 hOa zf0 zf1 zc0 zc1 c0 c1 hb hb' hlb hlw HR HI HOm HBk HXs HMh HHas hhas hkey hkc HB0 HBs
                generalize y.w = Y at *
                obtain ⟨b', off', rfl, hb3, d0, d1, d2, d3⟩ := (HA.out.on HBY.out) j HJ.out.1
                have hjn : (j : Int) < (n : Int) := by have := HJ.out.1; omega
                have r1 : Y.cell? ⟨w.heap.size, 1, none⟩ = some v := by rw [cell_of_row Y _ _ _ _ (0, 0) HRY.out]; rfl
                have f1 : Y.frozen? ⟨w.heap.size, 1, none⟩ = false := frozen_of_row Y _ 1 _ _ HRY.out
                have hlY := obj_lt HRY.out
                have hbw : b' < w.heap.size := by
                  obtain ⟨b4, off4, e4, h4, _⟩ := HA.out j HJ.out.1
                  cases e4
                  exact h4
                have ag : some b' ≠ v.ownBlock := fun e => by have := (HOY.out.lt b' e.symm).1; have := HXX.out; omega
                have ar : some w.heap.size ≠ v.ownBlock := fun e => by have := (HOY.out.lt _ e.symm).1; have := HXX.out; omega
                have hown := HOY.out
                go_wp2_with fail
                go_region_law (first | (refine step_append_lies _ (by rfl) _ _ _ (by rfl) X.heap.size 33 i0 _ 4 48 Tryz.underlying22 hi hz0 hz1 hz2 rfl (by omega) v k (itc gm gl gd gb (ixO n gm lm) k) (by rfl) (by first | exact (hown.alloc _).drew | exact hown.drew.alloc _) ⟨Y.heap.size, 0, none⟩ 1 1 [.string (tx (gm j)), .int .i64 (gl j), .int .i64 (gd j), .string (tx (gb j))] (by rfl) (by rfl) (World.news_of_block (cs := #[.string (tx (gm j)), .int .i64 (gl j), .int .i64 (gd j), .string (tx (gb j))]) (t := 33) (fr := (0, 0)) (by first | exact heap_alloc_new Y _ | exact heap_alloc_new Y.drew _)) (by simp [Value.oneCell']) (by omega) (by unfold maxLen; omega) (by omega) (by simp; omega) (Y.heap.size + 1) (by simp) ?_; intro gg cap2 w1 hown1 hgrow hat hlt2; have hR1 := (hgrow.block w.heap.size (by simp; omega) ar).trans ((Go.heap_alloc_old Y (.cells #[.string (tx (gm j)), .int .i64 (gl j), .int .i64 (gd j), .string (tx (gb j))] 33) hlY).trans HRY.out); have r2 : w1.cell? ⟨w.heap.size, 1, none⟩ = some v := (by rw [cell_of_row w1 _ _ _ _ (0, 0) hR1]; rfl); have f2 : w1.frozen? ⟨w.heap.size, 1, none⟩ = false := frozen_of_row w1 _ 1 _ _ hR1))
                all_goals
                  have HR2 : Hid ((w1.setCell ⟨w.heap.size, 1, none⟩ (.slice (some ⟨gg, 0, none⟩) (k + 1) cap2)).heap[w.heap.size]? = some (.cells #[.slice none 0 0, .slice (some ⟨gg, 0, none⟩) (k + 1) cap2] 68 (0, 0))) := Lib.hid (Go.Joins.block_setCell hR1 _)
                  have HO2 : Hid ((w1.setCell ⟨w.heap.size, 1, none⟩ (.slice (some ⟨gg, 0, none⟩) (k + 1) cap2)).ownsRow X.heap.size 33 4 (.slice (some ⟨gg, 0, none⟩) (k + 1) cap2) (k + 1) (itc gm gl gd gb (ixO n gm lm) (k + 1))) := Lib.hid (by
                    unfold itc
                    rw [HJ.out.2]
                    exact ownsR_far hown1 HXX.out)
                  have hBv : some B ≠ v.ownBlock := fun e => by have h4 := (HOY.out.lt _ e.symm).1; have h5 := HO.out.lt; omega
                  have HM2 : Hid (Om (w1.setCell ⟨w.heap.size, 1, none⟩ (.slice (some ⟨gg, 0, none⟩) (k + 1) cap2)) B n gm) := Lib.hid (mapFar (World.ownsMap.kept (by first | exact (HMY.out.alloc _).drew | exact HMY.out.drew.alloc _) hgrow hBv) hBne)
                  have hgs := hgrow.size
                  simp only [World.size_drew, World.size_alloc] at hgs
                  have hbs := HBY.out.size
                  have HBg : Below w.heap.size w w1 := by
                    first
                      | exact ((HBY.out.alloc HBY.out.size (.cells #[.string (tx (gm j)), .int .i64 (gl j), .int .i64 (gd j), .string (tx (gb j))] 33)).drew).grown hgrow (by simp; omega) (fun j' e => by have h4 := (HOY.out.lt _ e).1; have h5 := HXX.out; omega)
                      | exact ((HBY.out.drew.alloc (by simp; exact HBY.out.size) (.cells #[.string (tx (gm j)), .int .i64 (gl j), .int .i64 (gd j), .string (tx (gb j))] 33))).grown hgrow (by simp; omega) (fun j' e => by have h4 := (HOY.out.lt _ e).1; have h5 := HXX.out; omega)
                  have HB2 : Hid (Below w.heap.size w (w1.setCell ⟨w.heap.size, 1, none⟩ (.slice (some ⟨gg, 0, none⟩) (k + 1) cap2))) := Lib.hid (HBg.setCell (Nat.le_refl _) _)
                  have HS2 : Hid (X.heap.size ≤ (w1.setCell ⟨w.heap.size, 1, none⟩ (.slice (some ⟨gg, 0, none⟩) (k + 1) cap2)).heap.size) := Lib.hid (by rw [World.size_setCell]; omega)
                  clear hown1 hgrow hat hlt2 hR1 r2 f2 hgs hBv hbs HBg
                  go_wp2
                  go_roundw
                  case rel => exact ⟨k + 1, by omega, by go_num, rfl, HG, _, HR2, HO2, HM2, HB2, HS2⟩
                  case measure => simp [intOf]; omega
        · obtain rfl : m = k := by omega
          have hlti : ¬ (m : Int) < (m : Int) := by omega
          have HVr := Lib.hid (vrB_true ⟨hmm'.out, HT.out⟩)
          obtain ⟨g, cap2, e⟩ := Go.Joins.ownsRow_form HI.out (by have := hmm'.out; omega)
          subst e
          have HIt := Lib.hid (itAt_of HI.out)
          have HFar : Hid (ItAt (((wr.setCell ⟨w.heap.size, 0, none⟩ (.slice al m capl)).setCell ⟨w.heap.size, 0, none⟩ (.slice al m capl)).setCell ⟨w.heap.size, 1, none⟩ (.slice (some ⟨g, 0, none⟩) m cap2)) (some ⟨g, 0, none⟩) m (fun i => gm (ixO n gm lm i)) (fun i => gl (ixO n gm lm i)) (fun i => gd (ixO n gm lm i)) (fun i => gb (ixO n gm lm i))) := Lib.hid (itAt_of (ownsR_far (ownsR_far (ownsR_far HI.out (obj_lt HRX.out)) (obj_lt HRX.out)) (obj_lt HRX.out)))
          have zc0 : wr.cell? ⟨w.heap.size, 0, none⟩ = some (.slice none 0 0) := by rw [cell_of_row wr _ _ _ _ (0, 0) HR.out]; rfl
          have zc1 : wr.cell? ⟨w.heap.size, 1, none⟩ = some (.slice (some ⟨g, 0, none⟩) m cap2) := by rw [cell_of_row wr _ _ _ _ (0, 0) HR.out]; rfl
          have zf0 : wr.frozen? ⟨w.heap.size, 0, none⟩ = false := frozen_of_row wr _ 0 _ _ HR.out
          have zf1 : wr.frozen? ⟨w.heap.size, 1, none⟩ = false := frozen_of_row wr _ 1 _ _ HR.out
          have HR3 := Go.Joins.block_setCell (Go.Joins.block_setCell (Go.Joins.block_setCell (i := 0) HR.out (.slice al m capl)) (i := 0) (.slice al m capl)) (i := 1) (.slice (some ⟨g, 0, none⟩) m cap2)
          have w0 : (((wr.setCell ⟨w.heap.size, 0, none⟩ (.slice al m capl)).setCell ⟨w.heap.size, 0, none⟩ (.slice al m capl)).setCell ⟨w.heap.size, 1, none⟩ (.slice (some ⟨g, 0, none⟩) m cap2)).cell? ⟨w.heap.size, 0, none⟩ = some (.slice al m capl) := by rw [cell_of_row _ _ _ _ _ (0, 0) HR3]; rfl
          have w1 : (((wr.setCell ⟨w.heap.size, 0, none⟩ (.slice al m capl)).setCell ⟨w.heap.size, 0, none⟩ (.slice al m capl)).setCell ⟨w.heap.size, 1, none⟩ (.slice (some ⟨g, 0, none⟩) m cap2)).cell? ⟨w.heap.size, 1, none⟩ = some (.slice (some ⟨g, 0, none⟩) m cap2) := by rw [cell_of_row _ _ _ _ _ (0, 0) HR3]; rfl
          have HW0 := Lib.hid w0
          have HW1 := Lib.hid w1
          clear w0 w1 HR3
          have HBf : Hid (Below w.heap.size w (((wr.setCell ⟨w.heap.size, 0, none⟩ (.slice al m capl)).setCell ⟨w.heap.size, 0, none⟩ (.slice al m capl)).setCell ⟨w.heap.size, 1, none⟩ (.slice (some ⟨g, 0, none⟩) m cap2))) := Lib.hid (((HBk.out.setCell (Nat.le_refl _) _).setCell (Nat.le_refl _) _).setCell (Nat.le_refl _) _)
          go_wp2
          generalize (((wr.setCell ⟨w.heap.size, 0, none⟩ (.slice al m capl)).setCell ⟨w.heap.size, 0, none⟩ (.slice al m capl)).setCell ⟨w.heap.size, 1, none⟩ (.slice (some ⟨g, 0, none⟩) m cap2)) = W3 at *
          have w0 := HW0.out
          have w1 := HW1.out
          refine bodyPost_ret (v := .tuple #[.agg #[.slice al m capl, .slice (some ⟨g, 0, none⟩) m cap2], .bool true]) (by simp [results, Tryz.results28, go_sem, w0, w1]) rfl ⟨?_, HBf.out⟩
          rw [HVr.out]
          exact ⟨_, _, rfl, HFar.out⟩
    · have hW1 := fun W => hW false W (decide_eq_false (by unfold Btw; omega))
      have HQ := Lib.hid (vr_len (n := n) (gm := gm) (lm := lm) (lf := lf) hmm)
      clear hW hmm
      go_wp2_with (go_at_call 30; refine (hW1 _).mono ?_; rintro e w' ⟨rfl, rfl⟩)
      have r0 : x.w.cell? ⟨w.heap.size, 0, none⟩ = some (.slice none 0 0) := (x.cell _ (by simp)).trans (by simp [go_sem])
      have r1 : x.w.cell? ⟨w.heap.size, 1, none⟩ = some (.slice none 0 0) := (x.cell _ (by simp)).trans (by simp [go_sem])
      go_wp2
      obtain ⟨w0, w1⟩ := x.set2 (r := w.heap.size) (.slice none 0 0) (.slice none 0 0) r0 r1
      refine bodyPost_ret (v := .tuple #[.agg #[.slice none 0 0, .slice none 0 0], .bool false]) (by simp [results, Tryz.results28, go_sem, w0, w1]) rfl ⟨by rw [HQ.out]; rfl, ?_⟩
      (repeat' (first | (with_reducible exact Below.refl _ _) | (with_reducible assumption) | (with_reducible refine Below.alloc ?_ ?_ _) | (with_reducible refine Below.drew ?_) | (with_reducible refine below_drewN ?_ _) | (with_reducible refine Below.setCell ?_ ?_ _) | (with_reducible refine below_after ?_ ?_ _) | (with_reducible refine below_set ?_) | (with_reducible refine After.size_le _ ?_) | (with_reducible refine size_alloc_le ?_) | (with_reducible refine size_set_le ?_) | (with_reducible refine size_drewN_le ?_) | go_size))
end
end Go.Proofs.YtkgfaemdgmmdkaaGreatDoor.Gx
