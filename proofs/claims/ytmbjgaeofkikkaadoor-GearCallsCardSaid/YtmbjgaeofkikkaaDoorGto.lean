/- Touched of the program. openAll. Rigs: a slice of slices of links. open once more: the items of a rig that was opened lie in a block of items of their own. -/
import Derived.Test.YtmbjgaeofkikkaaDoorGop
import Derived.Test.YtmbjgaeofkikkaaDoorGar
import Derived.Test.YtmbjgaeofkikkaaDoorGfi
import Derived.Test.YtmbjgaeofkikkaaDoorGen
import Derived.Laws.EntriesVeiled
namespace Go.Proofs.YtmbjgaeofkikkaaDoor
open Go.RowKit Go.Maps
attribute [local go_sem] After.cell After.frozen After.lt After.le After.ne After.ne' After.set_eq After.size_set After.lt_add tx_size tx_toList

/-- What open answers: the items as a row. -/
def OpO (b : Bool) (n : Nat) (gm : Nat → List UInt8) (gl gd : Nat → Int) (gb : Nat → List UInt8) (al : Option Addr) (m capl : Nat) (lm : Nat → List UInt8) (w' : World) (e : Ending) : Prop := match b with
  | true => ∃ a2 c2 B, e = .returned (.tuple #[.agg #[.slice al m capl, .slice a2 m c2], .bool true]) ∧ w'.ownsRow B 62 4 (.slice a2 m c2) m (itc gm gl gd gb (ixO n gm lm) m)
  | false => e = .returned (.tuple #[.agg #[.slice none 0 0, .slice none 0 0], .bool false])
section
variable (a : Option Addr) (n cap : Nat) (gm : Nat → List UInt8) (gl gd : Nat → Int) (gb : Nat → List UInt8) (al : Option Addr) (m capl : Nat) (lm : Nat → List UInt8) (lf : Nat → Int) (w : World) (hA : ItAt w a n gm gl gd gb) (hL : LkAt w al m lm lf) (hn : n ≤ 1000) (hm : m ≤ 1000) (hcap : m ≤ capl) (h1 : Sht n gm) (h2 : Sht n gb) (h3 : Sht m lm)
include hA hL hn hm hcap h1 h2 h3
set_option maxRecDepth 100000 in
set_option maxHeartbeats 4000000 in
theorem open_own : Calls Tryd.prog 51 #[.slice a n cap, .slice al m capl] w fun e w' => OpO (vgB n gm gl gd gb && vrB n m gm lm lf) n gm gl gd gb al m capl lm w' e ∧ Below w.heap.size w w' := by
  have hmI : (m : Int) ≤ 1000 := by omega
  have HA := Lib.hid hA
  have HL := Lib.hid hL
  have HB := Lib.hid (fun W (hW : Below w.heap.size w W) => byMark_any a n cap gm gl gd gb W (hA.on hW) hn h1 h2)
  have HM := Lib.hid (And.intro h3 hcap)
  have HN := Lib.hid (And.intro hn hm)
  clear hA hL h1 h2 h3 hn hm hcap
  cases hv : vgB n gm gl gd gb
  · rw [hv] at HB
    clear hv
    go_enter Tryd.func51, Tryd.ntmps51
    go_wp2_with fail
    refine (HB.out _ (by (repeat' (first | (with_reducible exact Below.refl _ _) | (with_reducible assumption) | (with_reducible refine Below.alloc ?_ ?_ _) | (with_reducible refine Below.drew ?_) | (with_reducible refine below_drewN ?_ _) | (with_reducible refine Below.setCell ?_ ?_ _) | (with_reducible refine below_after ?_ ?_ _) | (with_reducible refine below_set ?_) | (with_reducible refine After.size_le _ ?_) | (with_reducible refine size_alloc_le ?_) | (with_reducible refine size_set_le ?_) | (with_reducible refine size_drewN_le ?_) | go_size)))).mono ?_
    rintro e w2 ⟨hr, hb2⟩
    obtain rfl : e = _ := hr
    obtain ⟨x, rfl⟩ : ∃ x : After (w.alloc (.cells #[.slice none 0 0, .slice none 0 0] 70)), w2 = x.w := ⟨⟨_, hb2⟩, rfl⟩
    clear hb2
    have r0 : x.w.cell? ⟨w.heap.size, 0, none⟩ = some (.slice none 0 0) := (x.cell _ (by simp)).trans (by simp [go_sem])
    have r1 : x.w.cell? ⟨w.heap.size, 1, none⟩ = some (.slice none 0 0) := (x.cell _ (by simp)).trans (by simp [go_sem])
    go_wp2
    obtain ⟨w0, w1⟩ := x.set2 (r := w.heap.size) (.slice none 0 0) (.slice none 0 0) r0 r1
    refine bodyPost_ret (v := .tuple #[.agg #[.slice none 0 0, .slice none 0 0], .bool false]) (by simp [results, Tryd.results51, go_sem, w0, w1]) rfl ⟨rfl, ?_⟩
    (repeat' (first | (with_reducible exact Below.refl _ _) | (with_reducible assumption) | (with_reducible refine Below.alloc ?_ ?_ _) | (with_reducible refine Below.drew ?_) | (with_reducible refine below_drewN ?_ _) | (with_reducible refine Below.setCell ?_ ?_ _) | (with_reducible refine below_after ?_ ?_ _) | (with_reducible refine below_set ?_) | (with_reducible refine After.size_le _ ?_) | (with_reducible refine size_alloc_le ?_) | (with_reducible refine size_set_le ?_) | (with_reducible refine size_drewN_le ?_) | go_size))
  · have HVd : Hid (∀ i, i < n → ∀ j, j < i → gm j ≠ gm i) := Lib.hid fun i hi j hj => ((vgB_of hv).2 i hi).2 j hj
    rw [hv] at HB
    clear hv
    go_enter Tryd.func51, Tryd.ntmps51
    go_wp2_with fail
    refine (HB.out _ (by (repeat' (first | (with_reducible exact Below.refl _ _) | (with_reducible assumption) | (with_reducible refine Below.alloc ?_ ?_ _) | (with_reducible refine Below.drew ?_) | (with_reducible refine below_drewN ?_ _) | (with_reducible refine Below.setCell ?_ ?_ _) | (with_reducible refine below_after ?_ ?_ _) | (with_reducible refine below_set ?_) | (with_reducible refine After.size_le _ ?_) | (with_reducible refine size_alloc_le ?_) | (with_reducible refine size_set_le ?_) | (with_reducible refine size_drewN_le ?_) | go_size)))).mono ?_
    rintro e w2 ⟨⟨B, rfl, hBw, hO⟩, hb2⟩
    obtain ⟨x, rfl⟩ : ∃ x : After (w.alloc (.cells #[.slice none 0 0, .slice none 0 0] 70)), w2 = x.w := ⟨⟨_, hb2⟩, rfl⟩
    have HO := Lib.hid hO
    clear hb2 hO HB
    have hW := fun b W (h : decide (Btw (m : Nat) 1 32) = b) => between_b (m : Nat) 1 32 W h
    by_cases hmm : 1 ≤ m ∧ m ≤ 32
    · have hW1 := fun W => hW true W (decide_eq_true (by unfold Btw; omega))
      have hmm' := Lib.hid hmm
      clear hW hmm
      go_wp2_with (go_at_call 65; refine (hW1 _).mono ?_; rintro e w' ⟨rfl, rfl⟩)
      have hBne : w.heap.size ≠ B := by simp at hBw; omega
      have HBX : Hid (Below w.heap.size w x.w) := Lib.hid (by (repeat' (first | (with_reducible exact Below.refl _ _) | (with_reducible assumption) | (with_reducible refine Below.alloc ?_ ?_ _) | (with_reducible refine Below.drew ?_) | (with_reducible refine below_drewN ?_ _) | (with_reducible refine Below.setCell ?_ ?_ _) | (with_reducible refine below_after ?_ ?_ _) | (with_reducible refine below_set ?_) | (with_reducible refine After.size_le _ ?_) | (with_reducible refine size_alloc_le ?_) | (with_reducible refine size_set_le ?_) | (with_reducible refine size_drewN_le ?_) | go_size)))
      have HRX : Hid (x.w.heap[w.heap.size]? = some (.cells #[.slice none 0 0, .slice none 0 0] 70 (0, 0))) := Lib.hid (obj_on (heap_alloc_new w _) x.out)
      clear hBw
      generalize x.w = X at *
      obtain ⟨i0, hi, hz0, hz1, hz2⟩ := info_parts itInfo
      go_loopw [5, 7, 8, 9, 10, 27] (fun o _ _ _ _ i W => ∃ k : Nat, k ≤ m ∧ i = .int .i64 k ∧ o = .bool true ∧ Hid (VrT n k gm lm lf) ∧ ∃ v, Hid (W.heap[w.heap.size]? = some (.cells #[.slice none 0 0, v] 70 (0, 0))) ∧ Hid (W.ownsRow X.heap.size 62 4 v k (itc gm gl gd gb (ixO n gm lm) k)) ∧ Hid (Om W B n gm) ∧ Hid (Below w.heap.size w W) ∧ Hid (X.heap.size ≤ W.heap.size)) (fun _ _ _ _ _ i _ => m - (intOf i).toNat)
      case atStart => exact ⟨0, Nat.zero_le _, rfl, rfl, Lib.hid vrT_zero, _, HRX, Lib.hid (World.ownsRow_nil _ _ _ _), HO, HBX, Lib.hid (Nat.le_refl _)⟩
      case round =>
        obtain ⟨k, hk, rfl, rfl, HT, v, HR, HI, HOm, HBk, HXs⟩ := hrel
        by_cases hlt : k < m
        · have hlti : (k : Int) < (m : Int) := by omega
          obtain ⟨b, off, rfl, hb, c0, c1⟩ := (HL.out.on HBk.out) k hlt
          have RW1 : (wr.alloc (.cells #[.string (tx (lm k)), .int .i64 (lf k)] 37)).heap[w.heap.size]? = some (.cells #[.slice none 0 0, v] 70 (0, 0)) := obj_on HR.out ((Below.refl _ wr).alloc (Nat.le_refl _) _)
          have hOa := Lib.hid (HOm.out.alloc (.cells #[.string (tx (lm k)), .int .i64 (lf k)] 37))
          have hkey := key_tx (HM.out.1 k hlt)
          have HNo := Lib.hid (fun h => vr_not (n := n) (gm := gm) (lm := lm) (lf := lf) hlt h)
          have hlb := obj_lt RW1
          have zf0 : wr.frozen? ⟨w.heap.size, 0, none⟩ = false := frozen_of_row wr _ 0 _ _ HR.out
          have zf1 : wr.frozen? ⟨w.heap.size, 1, none⟩ = false := frozen_of_row wr _ 1 _ _ HR.out
          have hlw := obj_lt HR.out
          have zc0 : wr.cell? ⟨w.heap.size, 0, none⟩ = some (.slice none 0 0) := by rw [cell_of_row wr _ _ _ _ (0, 0) HR.out]; rfl
          have zc1 : wr.cell? ⟨w.heap.size, 1, none⟩ = some v := by rw [cell_of_row wr _ _ _ _ (0, 0) HR.out]; rfl
          have hb' := Nat.lt_succ_of_lt hb
          cases hf : fdN gm n (lm k)
          case none =>
            have hhas : Maps.has (Dm gm n) (.string (lm k)) = false := by rw [dm_has, hf]; rfl
            have HQ := Lib.hid (HNo.out (fun h => h.1 hf))
            clear hf
            go_wp2_with (at_lookup; refine wpList_lookup_own_ok_int _ rfl _ _ 63 rfl 9 3 .i64 lawS Tryd.underlying63 Tryd.underlying3 (zeroE _) B n _ rfl hOa.out _ _ rfl hkey ?_; intro c hat hwc; clear hat hwc)
            refine wp_region_after (by kernel_rfl) (by kernel_rfl) ?_; (repeat (first | go_big_quiet_step ((fail)) | (refine wpQuiet_step (fun K hK => ?_); go_simp; first | (refine hK _ ?_; clear hK K) | (apply Exists.intro; refine ⟨fun x => ?_, hK _ ?_⟩; (fail); clear hK K)))); refine wpQuiet_nil ?_
            intro y
            have RY := obj_on RW1 y.out
            have r0 : y.w.cell? ⟨w.heap.size, 0, none⟩ = some (.slice none 0 0) := by rw [cell_of_row y.w _ _ _ _ (0, 0) RY]; rfl
            have r1 : y.w.cell? ⟨w.heap.size, 1, none⟩ = some v := by rw [cell_of_row y.w _ _ _ _ (0, 0) RY]; rfl
            have HB0 := HBk.out
            have HBs := HB0.size
            clear RY RW1
            go_wp2
            obtain ⟨w0, w1⟩ := y.set2 (r := w.heap.size) (.slice none 0 0) (.slice none 0 0) r0 r1
            refine bodyPost_ret (v := .tuple #[.agg #[.slice none 0 0, .slice none 0 0], .bool false]) (by simp [results, Tryd.results51, go_sem, w0, w1]) rfl ⟨by rw [HQ.out]; rfl, ?_⟩
            (repeat' (first | (with_reducible exact Below.refl _ _) | (with_reducible assumption) | (with_reducible refine Below.alloc ?_ ?_ _) | (with_reducible refine Below.drew ?_) | (with_reducible refine below_drewN ?_ _) | (with_reducible refine Below.setCell ?_ ?_ _) | (with_reducible refine below_after ?_ ?_ _) | (with_reducible refine below_set ?_) | (with_reducible refine After.size_le _ ?_) | (with_reducible refine size_alloc_le ?_) | (with_reducible refine size_set_le ?_) | (with_reducible refine size_drewN_le ?_) | go_size))
          case some j =>
            have hhas : Maps.has (Dm gm n) (.string (lm k)) = true := by rw [dm_has, hf]; rfl
            have hat0 := dm_at (.lit (.int .i64 0)) HVd.out hf
            have HSome : Hid (fdN gm n (lm k) ≠ none) := Lib.hid (by rw [hf]; exact fun h => by cases h)
            have HJ : Hid (j < n ∧ ixO n gm lm k = j) := Lib.hid ⟨(fdN_some.1 hf).1, by unfold ixO; rw [hf]; rfl⟩
            have HMh : Hid (∀ W, Calls Tryd.prog 82 #[.int .i64 k, .int .i64 (lf k)] W fun e w' => e = .returned (.bool (mhB k (lf k))) ∧ Below W.heap.size W w') := Lib.hid (fun W => (mayHang_any k (lf k) (by have := HN.out; omega) W).mono fun e w' h => ⟨h.1, by rw [← h.2]; exact Below.refl _ _⟩)
            have HHas := Lib.hid (fun W (hW : Below w.heap.size w W) => has_any (some ⟨b, off, none⟩) k capl lm lf (lm k) W ((HL.out.on hW).less (by omega)) (by have := HN.out; omega))
            have hkc : (k : Int) ≤ (capl : Int) := by have := HM.out.2; omega
            clear hf
            cases hmh : mhB k (lf k)
            · have HQ := Lib.hid (HNo.out (fun h => by have h3 := h.2.1; rw [hmh] at h3; cases h3))
              rw [hmh] at HMh
              clear hmh
              go_wp2_with (at_lookup; refine wpList_lookup_own_ok_int _ rfl _ _ 63 rfl 9 3 .i64 lawS Tryd.underlying63 Tryd.underlying3 (zeroE _) B n _ rfl hOa.out _ _ rfl hkey ?_; intro c hat hwc; (obtain rfl : ((j : Nat) : Int) = c := (by rw [hat0] at hat; simpa using hat)); clear hat hwc)
              refine wp_region_after (by kernel_rfl) (by kernel_rfl) ?_; (repeat (first | go_big_quiet_step ((first | (go_at_call 82; exact quiet_after (HMh.out _)))) | (refine wpQuiet_step (fun K hK => ?_); go_simp; first | (refine hK _ ?_; clear hK K) | (apply Exists.intro; refine ⟨fun x => ?_, hK _ ?_⟩; (first | (go_at_call 82; exact quiet_after (HMh.out _))); clear hK K)))); refine wpQuiet_nil ?_
              intro y
              have RY := obj_on RW1 y.out
              have r0 : y.w.cell? ⟨w.heap.size, 0, none⟩ = some (.slice none 0 0) := by rw [cell_of_row y.w _ _ _ _ (0, 0) RY]; rfl
              have r1 : y.w.cell? ⟨w.heap.size, 1, none⟩ = some v := by rw [cell_of_row y.w _ _ _ _ (0, 0) RY]; rfl
              have HB0 := HBk.out
              have HBs := HB0.size
              clear RY RW1
              go_wp2
              obtain ⟨w0, w1⟩ := y.set2 (r := w.heap.size) (.slice none 0 0) (.slice none 0 0) r0 r1
              refine bodyPost_ret (v := .tuple #[.agg #[.slice none 0 0, .slice none 0 0], .bool false]) (by simp [results, Tryd.results51, go_sem, w0, w1]) rfl ⟨by rw [HQ.out]; rfl, ?_⟩
              (repeat' (first | (with_reducible exact Below.refl _ _) | (with_reducible assumption) | (with_reducible refine Below.alloc ?_ ?_ _) | (with_reducible refine Below.drew ?_) | (with_reducible refine below_drewN ?_ _) | (with_reducible refine Below.setCell ?_ ?_ _) | (with_reducible refine below_after ?_ ?_ _) | (with_reducible refine below_set ?_) | (with_reducible refine After.size_le _ ?_) | (with_reducible refine size_alloc_le ?_) | (with_reducible refine size_set_le ?_) | (with_reducible refine size_drewN_le ?_) | go_size))
            · rw [hmh] at HMh
              cases hd : fdN lm k (lm k)
              case some t =>
                have HQ := Lib.hid (HNo.out (fun h => by have h3 := h.2.2; rw [hd] at h3; cases h3))
                rw [hd] at HHas
                clear hmh hd
                have HB0 := HBk.out
                have HBs := HB0.size
                go_wp2_with (at_lookup; refine wpList_lookup_own_ok_int _ rfl _ _ 63 rfl 9 3 .i64 lawS Tryd.underlying63 Tryd.underlying3 (zeroE _) B n _ rfl hOa.out _ _ rfl hkey ?_; intro c hat hwc; (obtain rfl : ((j : Nat) : Int) = c := (by rw [hat0] at hat; simpa using hat)); clear hat hwc)
                refine wp_region_after (by kernel_rfl) (by kernel_rfl) ?_; (repeat (first | go_big_quiet_step ((first | (go_at_call 82; exact quiet_after (HMh.out _)) | (go_at_call 79; exact quiet_after (HHas.out _ (by (repeat' (first | (with_reducible exact Below.refl _ _) | (with_reducible assumption) | (with_reducible refine Below.alloc ?_ ?_ _) | (with_reducible refine Below.drew ?_) | (with_reducible refine below_drewN ?_ _) | (with_reducible refine Below.setCell ?_ ?_ _) | (with_reducible refine below_after ?_ ?_ _) | (with_reducible refine below_set ?_) | (with_reducible refine After.size_le _ ?_) | (with_reducible refine size_alloc_le ?_) | (with_reducible refine size_set_le ?_) | (with_reducible refine size_drewN_le ?_) | go_size))))))) | (refine wpQuiet_step (fun K hK => ?_); go_simp; first | (refine hK _ ?_; clear hK K) | (apply Exists.intro; refine ⟨fun x => ?_, hK _ ?_⟩; (first | (go_at_call 82; exact quiet_after (HMh.out _)) | (go_at_call 79; exact quiet_after (HHas.out _ (by (repeat' (first | (with_reducible exact Below.refl _ _) | (with_reducible assumption) | (with_reducible refine Below.alloc ?_ ?_ _) | (with_reducible refine Below.drew ?_) | (with_reducible refine below_drewN ?_ _) | (with_reducible refine Below.setCell ?_ ?_ _) | (with_reducible refine below_after ?_ ?_ _) | (with_reducible refine below_set ?_) | (with_reducible refine After.size_le _ ?_) | (with_reducible refine size_alloc_le ?_) | (with_reducible refine size_set_le ?_) | (with_reducible refine size_drewN_le ?_) | go_size)))))); clear hK K)))); refine wpQuiet_nil ?_
                intro y
                have RY := obj_on RW1 y.out
                have r0 : y.w.cell? ⟨w.heap.size, 0, none⟩ = some (.slice none 0 0) := by rw [cell_of_row y.w _ _ _ _ (0, 0) RY]; rfl
                have r1 : y.w.cell? ⟨w.heap.size, 1, none⟩ = some v := by rw [cell_of_row y.w _ _ _ _ (0, 0) RY]; rfl
                clear RY RW1
                go_wp2
                obtain ⟨w0, w1⟩ := y.set2 (r := w.heap.size) (.slice none 0 0) (.slice none 0 0) r0 r1
                refine bodyPost_ret (v := .tuple #[.agg #[.slice none 0 0, .slice none 0 0], .bool false]) (by simp [results, Tryd.results51, go_sem, w0, w1]) rfl ⟨by rw [HQ.out]; rfl, ?_⟩
                (repeat' (first | (with_reducible exact Below.refl _ _) | (with_reducible assumption) | (with_reducible refine Below.alloc ?_ ?_ _) | (with_reducible refine Below.drew ?_) | (with_reducible refine below_drewN ?_ _) | (with_reducible refine Below.setCell ?_ ?_ _) | (with_reducible refine below_after ?_ ?_ _) | (with_reducible refine below_set ?_) | (with_reducible refine After.size_le _ ?_) | (with_reducible refine size_alloc_le ?_) | (with_reducible refine size_set_le ?_) | (with_reducible refine size_drewN_le ?_) | go_size))
              case none =>
                have HG := Lib.hid (vrT_succ HT.out ⟨HSome.out, hmh, hd⟩)
                rw [hd] at HHas
                clear hmh hd
                have HB0 := HBk.out
                have HBs := HB0.size
                go_wp2_with (at_lookup; refine wpList_lookup_own_ok_int _ rfl _ _ 63 rfl 9 3 .i64 lawS Tryd.underlying63 Tryd.underlying3 (zeroE _) B n _ rfl hOa.out _ _ rfl hkey ?_; intro c hat hwc; (obtain rfl : ((j : Nat) : Int) = c := (by rw [hat0] at hat; simpa using hat)); clear hat hwc)
                refine wp_region_after (by kernel_rfl) (by kernel_rfl) ?_; (repeat (first | go_big_quiet_step ((first | (go_at_call 82; exact quiet_after (HMh.out _)) | (go_at_call 79; exact quiet_after (HHas.out _ (by (repeat' (first | (with_reducible exact Below.refl _ _) | (with_reducible assumption) | (with_reducible refine Below.alloc ?_ ?_ _) | (with_reducible refine Below.drew ?_) | (with_reducible refine below_drewN ?_ _) | (with_reducible refine Below.setCell ?_ ?_ _) | (with_reducible refine below_after ?_ ?_ _) | (with_reducible refine below_set ?_) | (with_reducible refine After.size_le _ ?_) | (with_reducible refine size_alloc_le ?_) | (with_reducible refine size_set_le ?_) | (with_reducible refine size_drewN_le ?_) | go_size))))))) | (refine wpQuiet_step (fun K hK => ?_); go_simp; first | (refine hK _ ?_; clear hK K) | (apply Exists.intro; refine ⟨fun x => ?_, hK _ ?_⟩; (first | (go_at_call 82; exact quiet_after (HMh.out _)) | (go_at_call 79; exact quiet_after (HHas.out _ (by (repeat' (first | (with_reducible exact Below.refl _ _) | (with_reducible assumption) | (with_reducible refine Below.alloc ?_ ?_ _) | (with_reducible refine Below.drew ?_) | (with_reducible refine below_drewN ?_ _) | (with_reducible refine Below.setCell ?_ ?_ _) | (with_reducible refine below_after ?_ ?_ _) | (with_reducible refine below_set ?_) | (with_reducible refine After.size_le _ ?_) | (with_reducible refine size_alloc_le ?_) | (with_reducible refine size_set_le ?_) | (with_reducible refine size_drewN_le ?_) | go_size)))))); clear hK K)))); refine wpQuiet_nil ?_
                intro y
                have RY0 := obj_on RW1 y.out
                have OY0 := ownsR_stay (HI.out.alloc (.cells #[.string (tx (lm k)), .int .i64 (lf k)] 37)) y.out
                have MY0 := mapOn hOa.out y.out
                have BY0 : Below w.heap.size w y.w := by (repeat' (first | (with_reducible exact Below.refl _ _) | (with_reducible assumption) | (with_reducible refine Below.alloc ?_ ?_ _) | (with_reducible refine Below.drew ?_) | (with_reducible refine below_drewN ?_ _) | (with_reducible refine Below.setCell ?_ ?_ _) | (with_reducible refine below_after ?_ ?_ _) | (with_reducible refine below_set ?_) | (with_reducible refine After.size_le _ ?_) | (with_reducible refine size_alloc_le ?_) | (with_reducible refine size_set_le ?_) | (with_reducible refine size_drewN_le ?_) | go_size))
                have SY0 : X.heap.size ≤ y.w.heap.size := by have h4 := HXs.out; have h5 := y.out.size; simp at h5; omega
                have HRY := Lib.hid RY0
                have HOY := Lib.hid OY0
                have HMY := Lib.hid MY0
                have HBY := Lib.hid BY0
                have HXX := Lib.hid (obj_lt HRX.out)
                have HSYX := Lib.hid SY0
                have hSY := SY0
                clear RY0 OY0 MY0 BY0 SY0 RW1 hOa zf0 zf1 zc0 zc1 c0 c1 hb hb' hlb hlw HR HI HOm HBk HXs HMh HHas hhas hkey hkc HB0 HBs
                generalize y.w = Y at *
                obtain ⟨b', off', rfl, hb3, d0, d1, d2, d3⟩ := (HA.out.on HBY.out) j HJ.out.1
                have hjn : (j : Int) < (n : Int) := by have := HJ.out.1; omega
                have r1 : Y.cell? ⟨w.heap.size, 1, none⟩ = some v := by rw [cell_of_row Y _ _ _ _ (0, 0) HRY.out]; rfl
                have f1 : Y.frozen? ⟨w.heap.size, 1, none⟩ = false := frozen_of_row Y _ 1 _ _ HRY.out
                have hlY := obj_lt HRY.out
                have hbw : b' < w.heap.size := by
                  obtain ⟨b4, off4, e4, h4, _⟩ := HA.out j HJ.out.1
                  cases e4
                  exact h4
                have ag : some b' ≠ v.ownBlock := fun e => by have := (HOY.out.lt b' e.symm).1; have := HXX.out; omega
                have ar : some w.heap.size ≠ v.ownBlock := fun e => by have := (HOY.out.lt _ e.symm).1; have := HXX.out; omega
                have hown := HOY.out
                go_wp2_with fail
                go_region_law (first | (refine step_append_lies _ (by rfl) _ _ _ (by rfl) X.heap.size 62 i0 _ 4 48 Tryd.underlying22 hi hz0 hz1 hz2 rfl (by omega) v k (itc gm gl gd gb (ixO n gm lm) k) (by rfl) (by first | exact (hown.alloc _).drew | exact hown.drew.alloc _) ⟨Y.heap.size, 0, none⟩ 1 1 [.string (tx (gm j)), .int .i64 (gl j), .int .i64 (gd j), .string (tx (gb j))] (by rfl) (by rfl) (World.news_of_block (cs := #[.string (tx (gm j)), .int .i64 (gl j), .int .i64 (gd j), .string (tx (gb j))]) (t := 62) (fr := (0, 0)) (by first | exact heap_alloc_new Y _ | exact heap_alloc_new Y.drew _)) (by simp [Value.oneCell']) (by omega) (by unfold maxLen; omega) (by omega) (by simp; omega) (Y.heap.size + 1) (by simp) ?_; intro gg cap2 w1 hown1 hgrow hat hlt2; have hR1 := (hgrow.block w.heap.size (by simp; omega) ar).trans ((Go.heap_alloc_old Y (.cells #[.string (tx (gm j)), .int .i64 (gl j), .int .i64 (gd j), .string (tx (gb j))] 62) hlY).trans HRY.out); have r2 : w1.cell? ⟨w.heap.size, 1, none⟩ = some v := (by rw [cell_of_row w1 _ _ _ _ (0, 0) hR1]; rfl); have f2 : w1.frozen? ⟨w.heap.size, 1, none⟩ = false := frozen_of_row w1 _ 1 _ _ hR1))
                all_goals
                  have HR2 : Hid ((w1.setCell ⟨w.heap.size, 1, none⟩ (.slice (some ⟨gg, 0, none⟩) (k + 1) cap2)).heap[w.heap.size]? = some (.cells #[.slice none 0 0, .slice (some ⟨gg, 0, none⟩) (k + 1) cap2] 70 (0, 0))) := Lib.hid (Go.Joins.block_setCell hR1 _)
                  have HO2 : Hid ((w1.setCell ⟨w.heap.size, 1, none⟩ (.slice (some ⟨gg, 0, none⟩) (k + 1) cap2)).ownsRow X.heap.size 62 4 (.slice (some ⟨gg, 0, none⟩) (k + 1) cap2) (k + 1) (itc gm gl gd gb (ixO n gm lm) (k + 1))) := Lib.hid (by
                    unfold itc
                    rw [HJ.out.2]
                    exact ownsR_far hown1 HXX.out)
                  have hBv : some B ≠ v.ownBlock := fun e => by have h4 := (HOY.out.lt _ e.symm).1; have h5 := HO.out.lt; omega
                  have HM2 : Hid (Om (w1.setCell ⟨w.heap.size, 1, none⟩ (.slice (some ⟨gg, 0, none⟩) (k + 1) cap2)) B n gm) := Lib.hid (mapFar (World.ownsMap.kept (by first | exact (HMY.out.alloc _).drew | exact HMY.out.drew.alloc _) hgrow hBv) hBne)
                  have hgs := hgrow.size
                  simp only [World.size_drew, World.size_alloc] at hgs
                  have hbs := HBY.out.size
                  have HBg : Below w.heap.size w w1 := by
                    first
                      | exact ((HBY.out.alloc HBY.out.size (.cells #[.string (tx (gm j)), .int .i64 (gl j), .int .i64 (gd j), .string (tx (gb j))] 62)).drew).grown hgrow (by simp; omega) (fun j' e => by have h4 := (HOY.out.lt _ e).1; have h5 := HXX.out; omega)
                      | exact ((HBY.out.drew.alloc (by simp; exact HBY.out.size) (.cells #[.string (tx (gm j)), .int .i64 (gl j), .int .i64 (gd j), .string (tx (gb j))] 62))).grown hgrow (by simp; omega) (fun j' e => by have h4 := (HOY.out.lt _ e).1; have h5 := HXX.out; omega)
                  have HB2 : Hid (Below w.heap.size w (w1.setCell ⟨w.heap.size, 1, none⟩ (.slice (some ⟨gg, 0, none⟩) (k + 1) cap2))) := Lib.hid (HBg.setCell (Nat.le_refl _) _)
                  have HS2 : Hid (X.heap.size ≤ (w1.setCell ⟨w.heap.size, 1, none⟩ (.slice (some ⟨gg, 0, none⟩) (k + 1) cap2)).heap.size) := Lib.hid (by rw [World.size_setCell]; omega)
                  clear hown1 hgrow hat hlt2 hR1 r2 f2 hgs hBv hbs HBg
                  go_wp2
                  go_roundw
                  case rel => exact ⟨k + 1, by omega, by go_num, rfl, HG, _, HR2, HO2, HM2, HB2, HS2⟩
                  case measure => simp [intOf]; omega
        · obtain rfl : m = k := by omega
          have hlti : ¬ (m : Int) < (m : Int) := by omega
          have HVr := Lib.hid (vrB_true ⟨hmm'.out, HT.out⟩)
          obtain ⟨g, cap2, e⟩ := Go.Joins.ownsRow_form HI.out (by have := hmm'.out; omega)
          subst e
          have HFar : Hid (World.ownsRow (((wr.setCell ⟨w.heap.size, 0, none⟩ (.slice al m capl)).setCell ⟨w.heap.size, 0, none⟩ (.slice al m capl)).setCell ⟨w.heap.size, 1, none⟩ (.slice (some ⟨g, 0, none⟩) m cap2)) X.heap.size 62 4 (.slice (some ⟨g, 0, none⟩) m cap2) m (itc gm gl gd gb (ixO n gm lm) m)) := Lib.hid (ownsR_far (ownsR_far (ownsR_far HI.out (obj_lt HRX.out)) (obj_lt HRX.out)) (obj_lt HRX.out))
          have zc0 : wr.cell? ⟨w.heap.size, 0, none⟩ = some (.slice none 0 0) := by rw [cell_of_row wr _ _ _ _ (0, 0) HR.out]; rfl
          have zc1 : wr.cell? ⟨w.heap.size, 1, none⟩ = some (.slice (some ⟨g, 0, none⟩) m cap2) := by rw [cell_of_row wr _ _ _ _ (0, 0) HR.out]; rfl
          have zf0 : wr.frozen? ⟨w.heap.size, 0, none⟩ = false := frozen_of_row wr _ 0 _ _ HR.out
          have zf1 : wr.frozen? ⟨w.heap.size, 1, none⟩ = false := frozen_of_row wr _ 1 _ _ HR.out
          have HR3 := Go.Joins.block_setCell (Go.Joins.block_setCell (Go.Joins.block_setCell (i := 0) HR.out (.slice al m capl)) (i := 0) (.slice al m capl)) (i := 1) (.slice (some ⟨g, 0, none⟩) m cap2)
          have w0 : (((wr.setCell ⟨w.heap.size, 0, none⟩ (.slice al m capl)).setCell ⟨w.heap.size, 0, none⟩ (.slice al m capl)).setCell ⟨w.heap.size, 1, none⟩ (.slice (some ⟨g, 0, none⟩) m cap2)).cell? ⟨w.heap.size, 0, none⟩ = some (.slice al m capl) := by rw [cell_of_row _ _ _ _ _ (0, 0) HR3]; rfl
          have w1 : (((wr.setCell ⟨w.heap.size, 0, none⟩ (.slice al m capl)).setCell ⟨w.heap.size, 0, none⟩ (.slice al m capl)).setCell ⟨w.heap.size, 1, none⟩ (.slice (some ⟨g, 0, none⟩) m cap2)).cell? ⟨w.heap.size, 1, none⟩ = some (.slice (some ⟨g, 0, none⟩) m cap2) := by rw [cell_of_row _ _ _ _ _ (0, 0) HR3]; rfl
          have HW0 := Lib.hid w0
          have HW1 := Lib.hid w1
          clear w0 w1 HR3
          have HBf : Hid (Below w.heap.size w (((wr.setCell ⟨w.heap.size, 0, none⟩ (.slice al m capl)).setCell ⟨w.heap.size, 0, none⟩ (.slice al m capl)).setCell ⟨w.heap.size, 1, none⟩ (.slice (some ⟨g, 0, none⟩) m cap2))) := Lib.hid (((HBk.out.setCell (Nat.le_refl _) _).setCell (Nat.le_refl _) _).setCell (Nat.le_refl _) _)
          go_wp2
          generalize (((wr.setCell ⟨w.heap.size, 0, none⟩ (.slice al m capl)).setCell ⟨w.heap.size, 0, none⟩ (.slice al m capl)).setCell ⟨w.heap.size, 1, none⟩ (.slice (some ⟨g, 0, none⟩) m cap2)) = W3 at *
          have w0 := HW0.out
          have w1 := HW1.out
          refine bodyPost_ret (v := .tuple #[.agg #[.slice al m capl, .slice (some ⟨g, 0, none⟩) m cap2], .bool true]) (by simp [results, Tryd.results51, go_sem, w0, w1]) rfl ⟨?_, HBf.out⟩
          rw [HVr.out]
          exact ⟨_, _, _, rfl, HFar.out⟩
    · have hW1 := fun W => hW false W (decide_eq_false (by unfold Btw; omega))
      have HQ := Lib.hid (vr_len (n := n) (gm := gm) (lm := lm) (lf := lf) hmm)
      clear hW hmm
      go_wp2_with (go_at_call 65; refine (hW1 _).mono ?_; rintro e w' ⟨rfl, rfl⟩)
      have r0 : x.w.cell? ⟨w.heap.size, 0, none⟩ = some (.slice none 0 0) := (x.cell _ (by simp)).trans (by simp [go_sem])
      have r1 : x.w.cell? ⟨w.heap.size, 1, none⟩ = some (.slice none 0 0) := (x.cell _ (by simp)).trans (by simp [go_sem])
      go_wp2
      obtain ⟨w0, w1⟩ := x.set2 (r := w.heap.size) (.slice none 0 0) (.slice none 0 0) r0 r1
      refine bodyPost_ret (v := .tuple #[.agg #[.slice none 0 0, .slice none 0 0], .bool false]) (by simp [results, Tryd.results51, go_sem, w0, w1]) rfl ⟨by rw [HQ.out]; rfl, ?_⟩
      (repeat' (first | (with_reducible exact Below.refl _ _) | (with_reducible assumption) | (with_reducible refine Below.alloc ?_ ?_ _) | (with_reducible refine Below.drew ?_) | (with_reducible refine below_drewN ?_ _) | (with_reducible refine Below.setCell ?_ ?_ _) | (with_reducible refine below_after ?_ ?_ _) | (with_reducible refine below_set ?_) | (with_reducible refine After.size_le _ ?_) | (with_reducible refine size_alloc_le ?_) | (with_reducible refine size_set_le ?_) | (with_reducible refine size_drewN_le ?_) | go_size))
end
end Go.Proofs.YtmbjgaeofkikkaaDoor
namespace Go.Proofs.YtmbjgaeofkikkaaDoor
open Go.ChangeShapes Go.WideShapes Go.ChangeAt Go.RowKit Go.Joins Go.Deep

/-- A rig of a list: where its links lie, how many, and what they are. -/
structure Rg where
  a : Option Addr
  m : Nat
  cap : Nat
  lm : Nat → List UInt8
  lf : Nat → Int
/-- Where a slice's rigs lie. -/
def RgAt (W : World) (a : Option Addr) (nr : Nat) (R : Nat → Rg) : Prop := ∀ k, k < nr → ∃ b off, a = some ⟨b, off, none⟩ ∧ b < W.heap.size ∧ W.cell? ⟨b, off + k, none⟩ = some (.slice (R k).a (R k).m (R k).cap) ∧ LkAt W (R k).a (R k).m (R k).lm (R k).lf
theorem RgAt.on {w W : World} {a : Option Addr} {nr : Nat} {R : Nat → Rg} (h : RgAt w a nr R) (hb : Below w.heap.size w W) : RgAt W a nr R := fun k hk => by
  obtain ⟨b, off, e, h1, h2, h3⟩ := h k hk
  exact ⟨b, off, e, Nat.lt_of_lt_of_le h1 hb.size, (hb.cell (p := ⟨b, off + k, none⟩) h1).trans h2, h3.on hb⟩
/-- Rigs whose lengths fit their rooms and whose marks are texts. -/
def RgOk (nr : Nat) (R : Nat → Rg) : Prop := ∀ k, k < nr → (R k).m ≤ (R k).cap ∧ (R k).cap ≤ 9223372036854775807 ∧ Sht (R k).m (R k).lm
section
variable {H : Type} {enc : TypeId × Value → H} {P : Program} {w : World} {base : Nat} {spare : Nat → Bool} {held : Bool}
theorem open_linkc {t e : TypeId} {f0 f1 : Field} {c : Value} {fuel : Nat} {y : DataW H × List MemPlace} (ht : P.underlying t = some (.slice e)) (he : P.underlying e = some (.struct #[f0, f1])) (ce : P.cellsOf e = 2) (o0 : f0.offset = 0) (o1 : f1.offset = 1) (c0 : P.cellsOf f0.type = 1) (c1 : P.cellsOf f1.type = 1) (u0 : P.underlying f0.type = some .string) (u1 : P.underlying f1.type = some (.int .i64))
    (h : DataW.trod enc P w base spare held fuel t [c] = some y) :
    ∃ R : Rg, c = .slice R.a R.m R.cap ∧ R.m ≤ R.cap ∧ R.cap ≤ 9223372036854775807 ∧ LkAt w R.a R.m R.lm R.lf ∧ Sht R.m R.lm := by
  rcases open_slice ht h with ⟨h0, _⟩ | ⟨a', len, cap, m, n, D, Pl, h0, hb, hl, hm, hmm, _, hx⟩
  · simp at h0; subst h0
    exact ⟨⟨none, 0, 0, fun _ => [], fun _ => 0⟩, rfl, Nat.le_refl _, by dsimp only; omega, fun k hk => absurd hk (by dsimp only; omega), fun k hk => absurd hk (by dsimp only; omega)⟩
  · simp at h0; subst h0
    have hlm : len ≤ m := by rw [hmm]; split <;> omega
    have each : ∀ i, i < len → ∃ q : List UInt8 × Int, w.cell? (a'.add (i * 2)) = some (.string (tx q.1)) ∧ w.cell? (a'.add (i * 2 + 1)) = some (.int .i64 q.2) ∧ q.1.length ≤ 9223372036854775807 := by
      intro i hi
      obtain ⟨cs', h1, h2⟩ := hx i (by omega)
      rw [ce] at h1
      obtain ⟨_, hlen, hcell⟩ := World.cells?_some h1
      obtain ⟨xs, k, hk, hxy, _, hxl, hf⟩ := DataW.trod_struct he h2
      match xs, hxl, cs', hlen with
      | [y0, y1], _, [v0, v1], _ =>
        have g0 := hf 0 f0 rfl
        have g1 := hf 1 f1 rfl
        simp [o0, o1, c0, c1] at g0 g1
        have e0 := hcell 0 (by omega)
        have e1 := hcell 1 (by omega)
        rw [add_add] at e0 e1
        obtain ⟨s0, q0, _, z0⟩ := DataW.trod_string u0 g0
        obtain ⟨n1, q1, _, _⟩ := DataW.trod_int u1 g1
        simp at q0 q1
        subst q0 q1
        exact ⟨(s0.data.toList, n1), by rw [tx_data]; simpa using e0, by simpa using e1, by rw [Array.length_toList]; exact z0⟩
    obtain ⟨q, hq⟩ := choose_lt each
    refine ⟨⟨some a', len, cap, fun i => (q i).1, fun i => (q i).2⟩, rfl, hl, by unfold maxLen at hm; dsimp only; omega, fun k hk => ?_, fun k hk => (hq k hk).2.2⟩
    dsimp only at hk ⊢
    obtain ⟨g0, g1, _⟩ := hq k hk
    obtain ⟨b, off, sp⟩ := a'
    have z0 := (hq 0 (by omega)).1
    have hsp : sp = none := by simpa [Addr.add] using World.cell?_spot z0
    subst hsp
    rw [add_plain] at g0 g1
    exact ⟨b, off, rfl, World.block_lt_of_cell? w _ g0, g0, by rw [← Nat.add_assoc] at g1; exact g1⟩
theorem open_rigs {r : Reach} {b0 : Nat} {t u e : TypeId} {f0 f1 : Field} {v : Value} {d : DataW H} {p : List MemPlace} (ht : P.underlying t = some (.slice u)) (cu : P.cellsOf u = 1) (hu : P.underlying u = some (.slice e)) (he : P.underlying e = some (.struct #[f0, f1])) (ce : P.cellsOf e = 2) (o0 : f0.offset = 0) (o1 : f1.offset = 1) (c0 : P.cellsOf f0.type = 1) (c1 : P.cellsOf f1.type = 1) (u0 : P.underlying f0.type = some .string) (u1 : P.underlying f1.type = some (.int .i64))
    (hv : Value.okWide P w r b0 t v) (h : DataW.Trod enc P w base spare held t v d p) :
    ∃ (a : Option Addr) (nr cap : Nat) (R : Nat → Rg), v = .slice a nr cap ∧ nr ≤ cap ∧ cap ≤ 9223372036854775807 ∧ RgAt w a nr R ∧ RgOk nr R := by
  obtain ⟨a, len, cap, rfl⟩ := okWide_slice ht hv
  obtain ⟨fuel, h⟩ := h
  rcases open_slice1 ht cu h with ⟨h0, _⟩ | ⟨a', len', cap', m, k, V, D, Pl, h0, hb, hl, hm, hmm, _, hx⟩
  · simp [Value.cells] at h0
    obtain ⟨rfl, rfl, rfl⟩ := h0
    exact ⟨none, 0, 0, fun _ => ⟨none, 0, 0, fun _ => [], fun _ => 0⟩, rfl, Nat.le_refl _, by omega, fun k hk => absurd hk (by omega), fun k hk => absurd hk (by omega)⟩
  · simp [Value.cells] at h0
    obtain ⟨rfl, rfl, rfl⟩ := h0
    have hlm : len ≤ m := by rw [hmm]; split <;> omega
    have each : ∀ i, i < len → ∃ R : Rg, w.cell? (a'.add i) = some (.slice R.a R.m R.cap) ∧ R.m ≤ R.cap ∧ R.cap ≤ 9223372036854775807 ∧ LkAt w R.a R.m R.lm R.lf ∧ Sht R.m R.lm := by
      intro i hi
      obtain ⟨h1, h2⟩ := hx i (by omega)
      obtain ⟨R, hR, h3⟩ := open_linkc hu he ce o0 o1 c0 c1 u0 u1 h2
      exact ⟨R, by rw [← hR]; exact h1, h3⟩
    have : Inhabited Rg := ⟨⟨none, 0, 0, fun _ => [], fun _ => 0⟩⟩
    obtain ⟨R, hR⟩ := choose_lt each
    refine ⟨some a', len, cap, R, rfl, hl, by unfold maxLen at hm; omega, fun k hk => ?_, fun k hk => ⟨(hR k hk).2.1, (hR k hk).2.2.1, (hR k hk).2.2.2.2⟩⟩
    obtain ⟨g0, _, _, h3, _⟩ := hR k hk
    obtain ⟨b, off, sp⟩ := a'
    have z0 := (hR 0 (by omega)).1
    have hsp : sp = none := by simpa [Addr.add] using World.cell?_spot z0
    subst hsp
    rw [add_plain] at g0
    exact ⟨b, off, rfl, World.block_lt_of_cell? w _ g0, g0, h3⟩
end
theorem cellsLinks : Tryd.prog.cellsOf 23 = 1 := by kernel_rfl
/-- Are the first k rigs valid? -/
noncomputable def rgB (n : Nat) (gm : Nat → List UInt8) (R : Nat → Rg) : Nat → Bool
  | 0 => true
  | k + 1 => rgB n gm R k && vrB n (R k).m gm (R k).lm (R k).lf
/-- The error of gear and rigs. -/
noncomputable def oaE (v : Bool) (n : Nat) (gm : Nat → List UInt8) (R : Nat → Rg) (nr : Nat) : Int := if v then (if 50 < nr then 4 else if rgB n gm R nr then 0 else 1) else 1
theorem rgB_of {n : Nat} {gm : Nat → List UInt8} {R : Nat → Rg} : ∀ k, rgB n gm R k = true → ∀ i, i < k → vrB n (R i).m gm (R i).lm (R i).lf = true
  | 0, _, i, hi => by omega
  | k + 1, h, i, hi => by
    unfold rgB at h
    simp only [Bool.and_eq_true] at h
    by_cases e : i = k
    · subst e; exact h.2
    · exact rgB_of k h.1 i (by omega)
theorem rgB_not {n : Nat} {gm : Nat → List UInt8} {R : Nat → Rg} {i : Nat} (hi : vrB n (R i).m gm (R i).lm (R i).lf = false) : ∀ k, i < k → rgB n gm R k = false
  | 0, h => by omega
  | k + 1, h => by
    unfold rgB
    by_cases e : i = k
    · subst e; rw [hi, Bool.and_false]
    · rw [rgB_not hi k (by omega), Bool.false_and]
end Go.Proofs.YtmbjgaeofkikkaaDoor
namespace Go.Proofs.YtmbjgaeofkikkaaDoor
open Go.RowKit
attribute [local go_sem] After.cell After.frozen After.lt After.le After.ne After.ne' After.set_eq After.size_set After.lt_add tx_size tx_toList

/-- The cells of rigs that were opened. -/
def rcv (Q : List (Value × Value)) : List Value := Q.flatMap fun p => [p.1, p.2]
theorem rcv_snoc (Q : List (Value × Value)) (p : Value × Value) : rcv (Q ++ [p]) = rcv Q ++ [p.1, p.2] := by simp [rcv]
theorem rcv_get : ∀ {Q : List (Value × Value)} {i : Nat}, i < Q.length → (rcv Q)[i * 2]? = some (Q.getD i (undef, undef)).1 ∧ (rcv Q)[i * 2 + 1]? = some (Q.getD i (undef, undef)).2
  | p :: Q, 0, _ => by simp [rcv]
  | p :: Q, i + 1, h => by
    have e : rcv (p :: Q) = [p.1, p.2] ++ rcv Q := by simp [rcv]
    have := rcv_get (Q := Q) (i := i) (by simpa using h)
    rw [e, show (i + 1) * 2 = i * 2 + 2 by omega, show i * 2 + 2 + 1 = (i * 2 + 1) + 2 by omega]
    simpa using this
theorem rigInfo : (Tryd.prog.info? 70).map (fun i => (i.zero, i.size, i.bytes)) = some (some (.agg #[.slice none 0 0, .slice none 0 0]), 2, 48) := by kernel_rfl
/-- A rig that was opened: its links and its items. -/
def OpI (W : World) (n : Nat) (gm : Nat → List UInt8) (gl gd : Nat → Int) (gb : Nat → List UInt8) (r : Rg) (p : Value × Value) : Prop := p.1 = .slice r.a r.m r.cap ∧ ∃ a2 c2 B, p.2 = .slice a2 r.m c2 ∧ W.ownsRow B 62 4 (.slice a2 r.m c2) r.m (itc gm gl gd gb (ixO n gm r.lm) r.m)
theorem OpI.on {w W : World} {n : Nat} {gm : Nat → List UInt8} {gl gd : Nat → Int} {gb : Nat → List UInt8} {r : Rg} {p : Value × Value} (h : OpI w n gm gl gd gb r p) (hb : Below w.heap.size w W) : OpI W n gm gl gd gb r p := by
  obtain ⟨h1, a2, c2, B, h2, h3⟩ := h
  exact ⟨h1, a2, c2, B, h2, ownsR_stay h3 hb⟩
/-- A row of items is no row of rigs. -/
theorem items_grown {W W' : World} {B B' n k : Nat} {v v' : Value} {xs ys : List Value} (h : W.ownsRow B 62 4 v n xs) (hr : W.ownsRow B' 70 2 v' k ys) (hg : W.grownBy W' v'.ownBlock) : W'.ownsRow B 62 4 v n xs := by
  obtain ⟨q1, q2 | ⟨g, cap, cur, a1, a2, a3, a4⟩⟩ := h
  · exact ⟨q1, .inl q2⟩
  · refine ⟨q1, .inr ⟨g, cap, cur, a1, a2, (hg.block g (Array.getElem?_eq_some_iff.1 a3).1 (fun e => ?_)).trans a3, a4⟩⟩
    rcases hr.2 with ⟨rfl, _⟩ | ⟨g', cap', cur', rfl, _, hg', _⟩
    · simp [Value.ownBlock] at e
    · simp [Value.ownBlock] at e
      subst e
      rw [a3] at hg'
      simp at hg'
/-- What openAll answers. -/
def OaA (n : Nat) (gm : Nat → List UInt8) (gl gd : Nat → Int) (gb : Nat → List UInt8) (nr : Nat) (R : Nat → Rg) (c : Int) (W : World) (e : Ending) : Prop :=
  (c ≠ 0 ∧ e = .returned (.tuple #[.slice none 0 0, .int .i64 c])) ∨ (c = 0 ∧ ∃ (v : Value) (B : Nat) (Q : List (Value × Value)), Q.length = nr ∧ e = .returned (.tuple #[v, .int .i64 0]) ∧ W.ownsRow B 70 2 v nr (rcv Q) ∧ ∀ j, j < nr → OpI W n gm gl gd gb (R j) (Q.getD j (undef, undef)))
set_option maxRecDepth 100000 in
set_option maxHeartbeats 4000000 in
theorem openAll_any (a : Option Addr) (n cap : Nat) (gm : Nat → List UInt8) (gl gd : Nat → Int) (gb : Nat → List UInt8) (ar : Option Addr) (nr capr : Nat) (R : Nat → Rg) (w : World) (hA : ItAt w a n gm gl gd gb) (hR : RgAt w ar nr R) (hRo : RgOk nr R) (hRm : ∀ k, k < nr → (R k).m ≤ 1000) (hn : n ≤ 1000) (hnr : nr ≤ 1000) (h1 : Sht n gm) (h2 : Sht n gb) :
    Calls Tryd.prog 72 #[.slice a n cap, .slice ar nr capr] w fun e w' => OaA n gm gl gd gb nr R (oaE (vgB n gm gl gd gb) n gm R nr) w' e ∧ Below w.heap.size w w' := by
  have HV := Lib.hid (fun W (hW : Below w.heap.size w W) => valid_say a n cap gm gl gd gb W (hA.on hW) hn h1 h2)
  have HO := Lib.hid (fun k (hk : k < nr) W (hW : Below w.heap.size w W) => open_own a n cap gm gl gd gb (R k).a (R k).m (R k).cap (R k).lm (R k).lf W (hA.on hW) (hR.on hW k hk).choose_spec.choose_spec.2.2.2 hn (hRm k hk) (hRo k hk).1 h1 h2 (hRo k hk).2.2)
  have HR := Lib.hid hR
  have hrI : (nr : Int) ≤ 1000 := by omega
  clear hA hR hRo hRm hn h1 h2
  cases hv : vgB n gm gl gd gb
  · rw [hv] at HV
    have HE : Hid (oaE false n gm R nr = 1) := Lib.hid rfl
    clear hv HO HR
    go_enter Tryd.func72, Tryd.ntmps72
    go_wp2_with fail
    refine calls_after (HV.out _ (by (repeat' (first | (with_reducible exact Below.refl _ _) | (with_reducible assumption) | (with_reducible refine Below.alloc ?_ ?_ _) | (with_reducible refine Below.drew ?_) | (with_reducible refine below_drewN ?_ _) | (with_reducible refine Below.setCell ?_ ?_ _) | (with_reducible refine below_after ?_ ?_ _) | (with_reducible refine below_set ?_) | (with_reducible refine After.size_le _ ?_) | (with_reducible refine size_alloc_le ?_) | (with_reducible refine size_set_le ?_) | (with_reducible refine size_drewN_le ?_) | go_size)))) ?_
    intro x1
    go_wp2
    go_returns
    exact ⟨.inl ⟨by rw [HE.out]; decide, by rw [HE.out]; rfl⟩, by (repeat' (first | (with_reducible exact Below.refl _ _) | (with_reducible assumption) | (with_reducible refine Below.alloc ?_ ?_ _) | (with_reducible refine Below.drew ?_) | (with_reducible refine below_drewN ?_ _) | (with_reducible refine Below.setCell ?_ ?_ _) | (with_reducible refine below_after ?_ ?_ _) | (with_reducible refine below_set ?_) | (with_reducible refine After.size_le _ ?_) | (with_reducible refine size_alloc_le ?_) | (with_reducible refine size_set_le ?_) | (with_reducible refine size_drewN_le ?_) | go_size))⟩
  · rw [hv] at HV HO
    by_cases h50 : (50 : Int) < (nr : Int)
    · have HE : Hid (oaE true n gm R nr = 4) := Lib.hid (by unfold oaE; rw [if_pos rfl, if_pos (by omega)])
      clear hv HO HR
      go_enter Tryd.func72, Tryd.ntmps72
      go_wp2_with fail
      refine calls_after (HV.out _ (by (repeat' (first | (with_reducible exact Below.refl _ _) | (with_reducible assumption) | (with_reducible refine Below.alloc ?_ ?_ _) | (with_reducible refine Below.drew ?_) | (with_reducible refine below_drewN ?_ _) | (with_reducible refine Below.setCell ?_ ?_ _) | (with_reducible refine below_after ?_ ?_ _) | (with_reducible refine below_set ?_) | (with_reducible refine After.size_le _ ?_) | (with_reducible refine size_alloc_le ?_) | (with_reducible refine size_set_le ?_) | (with_reducible refine size_drewN_le ?_) | go_size)))) ?_
      intro x1
      go_wp2
      go_returns
      exact ⟨.inl ⟨by rw [HE.out]; decide, by rw [HE.out]; rfl⟩, by (repeat' (first | (with_reducible exact Below.refl _ _) | (with_reducible assumption) | (with_reducible refine Below.alloc ?_ ?_ _) | (with_reducible refine Below.drew ?_) | (with_reducible refine below_drewN ?_ _) | (with_reducible refine Below.setCell ?_ ?_ _) | (with_reducible refine below_after ?_ ?_ _) | (with_reducible refine below_set ?_) | (with_reducible refine After.size_le _ ?_) | (with_reducible refine size_alloc_le ?_) | (with_reducible refine size_set_le ?_) | (with_reducible refine size_drewN_le ?_) | go_size))⟩
    · have HE0 : Hid (rgB n gm R nr = true → oaE true n gm R nr = 0) := Lib.hid (fun h => by unfold oaE; rw [if_pos rfl, if_neg (by omega), if_pos h])
      have HE1 : Hid (rgB n gm R nr = false → oaE true n gm R nr = 1) := Lib.hid (fun h => by unfold oaE; rw [if_pos rfl, if_neg (by omega), h]; rfl)
      clear hv
      obtain ⟨i0, hi, hz0, hz1, hz2⟩ := info_parts rigInfo
      go_enter Tryd.func72, Tryd.ntmps72
      go_wp2_with fail
      refine (HV.out _ (by (repeat' (first | (with_reducible exact Below.refl _ _) | (with_reducible assumption) | (with_reducible refine Below.alloc ?_ ?_ _) | (with_reducible refine Below.drew ?_) | (with_reducible refine below_drewN ?_ _) | (with_reducible refine Below.setCell ?_ ?_ _) | (with_reducible refine below_after ?_ ?_ _) | (with_reducible refine below_set ?_) | (with_reducible refine After.size_le _ ?_) | (with_reducible refine size_alloc_le ?_) | (with_reducible refine size_set_le ?_) | (with_reducible refine size_drewN_le ?_) | go_size)))).mono ?_
      rintro e w2 ⟨rfl, hb2⟩
      have HB2 := Lib.hid hb2
      clear hb2 HV
      go_wp2
      go_loopw [6, 21] (fun v i W => ∃ (k : Nat) (Q : List (Value × Value)), k ≤ nr ∧ i = .int .i64 k ∧ Q.length = k ∧ Hid (rgB n gm R k = true) ∧ Hid (W.ownsRow w2.heap.size 70 2 v k (rcv Q)) ∧ Hid (∀ j, j < k → OpI W n gm gl gd gb (R j) (Q.getD j (undef, undef))) ∧ Hid (Below w2.heap.size w2 W)) (fun _ i _ => nr - (intOf i).toNat)
      case atStart => exact ⟨0, [], Nat.zero_le _, rfl, rfl, Lib.hid rfl, Lib.hid (World.ownsRow_nil _ _ _ _), Lib.hid (fun j hj => by omega), Lib.hid (Below.refl _ _)⟩
      case round =>
        obtain ⟨k, Q, hk, rfl, hQ, HG, HOw, HI, HB⟩ := hrel
        have HB3 := Lib.hid (HB2.out.trans (HB.out.mono HB2.out.size))
        by_cases hlt : k < nr
        · have hlti : (k : Int) < (nr : Int) := by omega
          obtain ⟨b, off, rfl, hb, c0, _⟩ := (HR.out.on HB3.out) k hlt
          have HOk := Lib.hid (HO.out k hlt _ HB3.out)
          have HNot : Hid (vrB n (R k).m gm (R k).lm (R k).lf = false → rgB n gm R nr = false) := Lib.hid (fun h => rgB_not h nr hlt)
          have HYes : Hid (vrB n (R k).m gm (R k).lm (R k).lf = true → rgB n gm R (k + 1) = true) := Lib.hid (fun h => by unfold rgB; rw [HG.out, h]; rfl)
          cases hvr : vrB n (R k).m gm (R k).lm (R k).lf
          · rw [hvr] at HOk
            have HE := Lib.hid (HE1.out (HNot.out hvr))
            clear hvr HNot HYes HE0 HE1
            generalize (R k).a = ra at *
            generalize (R k).m = rm at *
            generalize (R k).cap = rc at *
            go_wp2_with fail
            refine HOk.out.mono ?_
            rintro e w3 ⟨hr, hb3⟩
            obtain rfl : e = _ := hr
            have HBf := Lib.hid ((HB3.out.trans (hb3.mono HB3.out.size)).alloc (HB3.out.trans (hb3.mono HB3.out.size)).size (.cells #[.slice none 0 0, .slice none 0 0] 70))
            clear hb3 HOk
            go_wp2
            go_returns
            exact ⟨.inl ⟨by rw [HE.out]; decide, by rw [HE.out]; rfl⟩, HBf.out⟩
          · rw [hvr] at HOk
            have HG1 := Lib.hid (HYes.out hvr)
            clear hvr HNot HYes
            obtain ⟨r, hr⟩ : ∃ r, R k = r := ⟨_, rfl⟩
            rw [hr] at HOk c0
            have HRk := Lib.hid hr
            clear hr
            go_wp2_with fail
            refine HOk.out.mono ?_
            rintro e w3 ⟨⟨a2, c2, BI, rfl, hI⟩, hb3⟩
            have HO3 := Lib.hid (ownsR_stay HOw.out hb3)
            have HI3 := Lib.hid (fun j hj => (HI.out j hj).on hb3)
            have HIn := Lib.hid hI
            have HB4 := Lib.hid (HB.out.trans (hb3.mono HB.out.size))
            clear hb3 hI HOk HI HOw
            have hs3 := HB4.out.size
            have hkr : k ≤ 1000 := by omega
            go_wp2_with (at_builtin; refine wpList_append_own _ rfl _ _ 90 rfl w2.heap.size 70 i0 (.agg #[.slice none 0 0, .slice none 0 0]) 2 48 Tryd.underlying90 hi hz0 hz1 hz2 rfl (by decide) _ _ _ rfl ((HO3.out.alloc _).alloc _) ⟨w3.heap.size + 1, 0, none⟩ 1 1 [.slice r.a r.m r.cap, .slice a2 r.m c2] rfl rfl (by have hn0 := World.news_of_block (cs := #[.slice r.a r.m r.cap, .slice a2 r.m c2]) (t := 70) (fr := (0, 0)) (heap_alloc_new (w3.alloc (.cells #[.slice r.a r.m r.cap, .slice a2 r.m c2] 70)) (.cells #[.slice r.a r.m r.cap, .slice a2 r.m c2] 70)); simpa using hn0) (by simp [Value.oneCell']) (by unfold maxLen; omega) (by omega) (by simp; omega) ?_; intro v' w4 hown' hgrow _)
            have hb5 : Below w3.heap.size w3 ((w3.alloc (.cells #[.slice r.a r.m r.cap, .slice a2 r.m c2] 70)).alloc (.cells #[.slice r.a r.m r.cap, .slice a2 r.m c2] 70)) := ((Below.refl _ w3).alloc (Nat.le_refl _) _).alloc (by simp) _
            have HO5 := Lib.hid ((HO3.out.alloc (.cells #[.slice r.a r.m r.cap, .slice a2 r.m c2] 70)).alloc (.cells #[.slice r.a r.m r.cap, .slice a2 r.m c2] 70))
            have HI5 : Hid (∀ j, j < k + 1 → OpI w4 n gm gl gd gb (R j) ((Q ++ [((.slice r.a r.m r.cap : Value), (.slice a2 r.m c2 : Value))]).getD j (undef, undef))) := Lib.hid (fun j hj => by
              by_cases e : j = k
              · subst e
                rw [HRk.out, List.getD_eq_getElem?_getD, List.getElem?_append_right (by omega), hQ, Nat.sub_self]
                exact ⟨rfl, a2, c2, BI, rfl, items_grown (ownsR_stay HIn.out hb5) HO5.out hgrow⟩
              · obtain ⟨p1, a3, c3, B3, p2, p3⟩ := (HI3.out j (by omega)).on hb5
                have e2 : (Q ++ [((.slice r.a r.m r.cap : Value), (.slice a2 r.m c2 : Value))]).getD j (undef, undef) = Q.getD j (undef, undef) := by
                  rw [List.getD_eq_getElem?_getD, List.getD_eq_getElem?_getD, List.getElem?_append_left (by omega)]
                rw [e2]
                exact ⟨p1, a3, c3, B3, p2, items_grown p3 HO5.out hgrow⟩)
            have HB6 := Lib.hid ((HB4.out.trans (hb5.mono hs3)).grown hgrow (by simp; omega) (fun j e => (HO5.out.lt j e).1))
            have HO6 : Hid (w4.ownsRow w2.heap.size 70 2 v' (k + 1) (rcv (Q ++ [((.slice r.a r.m r.cap : Value), (.slice a2 r.m c2 : Value))]))) := Lib.hid (by rw [rcv_snoc]; exact hown')
            clear hown' hgrow hb5
            go_roundw
            case rel => exact ⟨k + 1, Q ++ [((.slice r.a r.m r.cap : Value), (.slice a2 r.m c2 : Value))], by omega, by go_num, by rw [List.length_append, hQ]; rfl, HG1, HO6, HI5, HB6⟩
            case measure => simp [intOf]; omega
        · obtain rfl : k = nr := by omega
          have HE := Lib.hid (HE0.out HG.out)
          go_wp2
          go_returns
          exact ⟨.inr ⟨HE.out, _, _, Q, hQ, rfl, HOw.out, HI.out⟩, HB3.out⟩
end Go.Proofs.YtmbjgaeofkikkaaDoor
namespace Go.Proofs.YtmbjgaeofkikkaaDoor
open Go.RowKit
attribute [local go_sem] After.cell After.frozen After.lt After.le After.ne After.ne' After.set_eq After.size_set After.lt_add tx_size tx_toList

theorem itAt_row {W : World} {B m c2 : Nat} {a2 : Option Addr} {gm : Nat → List UInt8} {gl gd : Nat → Int} {gb : Nat → List UInt8} {x : Nat → Nat} (h : W.ownsRow B 62 4 (.slice a2 m c2) m (itc gm gl gd gb x m)) : ItAt W a2 m (fun i => gm (x i)) (fun i => gl (x i)) (fun i => gd (x i)) (fun i => gb (x i)) := by
  rcases Nat.eq_zero_or_pos m with rfl | h0
  · exact fun k hk => absurd hk (by omega)
  · obtain ⟨g, c, e⟩ := Go.Joins.ownsRow_form h h0
    cases e
    exact itAt_of h
set_option maxRecDepth 100000 in
set_option maxHeartbeats 1000000 in
theorem touched1_any (x y m : List UInt8) (f g : Int) (B : Nat) (w : World) (h0 : w.cell? ⟨B, 0, none⟩ = some (.string (tx m))) :
    Calls Tryd.prog 75 #[.agg #[.string (tx x), .int .i64 f, .int .i64 g, .string (tx y)], .pointer (some ⟨B, 0, none⟩)] w fun e w' => e = .returned (.bool (y == m)) ∧ Below w.heap.size w w' := by
  have hB := World.block_lt_of_cell? _ _ h0
  go_enter Tryd.func75, Tryd.ntmps75
  go_wp2
  go_ret
  exact ⟨rfl, by (repeat' (first | (with_reducible exact Below.refl _ _) | (with_reducible assumption) | (with_reducible refine Below.alloc ?_ ?_ _) | (with_reducible refine Below.drew ?_) | (with_reducible refine below_drewN ?_ _) | (with_reducible refine Below.setCell ?_ ?_ _) | (with_reducible refine below_after ?_ ?_ _) | (with_reducible refine below_set ?_) | (with_reducible refine After.size_le _ ?_) | (with_reducible refine size_alloc_le ?_) | (with_reducible refine size_set_le ?_) | (with_reducible refine size_drewN_le ?_) | go_size))⟩
set_option maxRecDepth 100000 in
set_option maxHeartbeats 2000000 in
theorem indexItem_any (a : Option Addr) (n cap : Nat) (gm : Nat → List UInt8) (gl gd : Nat → Int) (gb : Nat → List UInt8) (m : List UInt8) (B : Nat) (w : World) (hA : ItAt w a n gm gl gd gb) (hn : n ≤ 9223372036854775807) (h0 : w.cell? ⟨B, 0, none⟩ = some (.string (tx m))) :
    Calls Tryd.prog 91 #[.slice a n cap, .func (.func 75) #[] #[.pointer (some ⟨B, 0, none⟩)]] w fun e w' => e = .returned (.int .i64 (ixL n gb m)) ∧ Below w.heap.size w w' := by
  have hnI : (n : Int) ≤ 9223372036854775807 := by omega
  have HA := Lib.hid hA
  have hB := World.block_lt_of_cell? _ _ h0
  have H0 := Lib.hid (fun x y f g W (hW : Below w.heap.size w W) => touched1_any x y m f g B W ((hW.cell (p := ⟨B, 0, none⟩) hB).trans h0))
  clear hA h0 hB hn
  go_enter Tryd.func91, Tryd.ntmps91
  go_wp2
  go_loopw [5, 8] (fun _ i W => ∃ k : Nat, k ≤ n ∧ i = .int .i64 k ∧ Hid (∀ j, j < k → gb j ≠ m) ∧ ∃ x : After w, W = x.w) (fun _ i _ => n - (intOf i).toNat)
  case atStart => exact ⟨0, Nat.zero_le _, rfl, Lib.hid (fun j hj => by omega), ⟨w, Below.refl _ _⟩, rfl⟩
  case round =>
    obtain ⟨k, hk, rfl, HT, x, rfl⟩ := hrel
    by_cases hlt : k < n
    · have hlti : (k : Int) < (n : Int) := by omega
      obtain ⟨b, off, rfl, hb, c0, c1, c2, c3⟩ := (HA.out.on x.out) k hlt
      have HC := Lib.hid (fun W (hW : Below w.heap.size w W) => H0.out (gm k) (gb k) (gl k) (gd k) W hW)
      by_cases e : gb k = m
      · have HF : Hid (fdN gb n m = some k) := Lib.hid (fdN_some.2 ⟨hlt, e, HT.out⟩)
        have he : (gb k == m) = true := by simp [e]
        rw [he] at HC
        clear e he
        go_wp2_with fail
        refine calls_after2 (HC.out _ x.out) ?_
        intro y
        go_wp2
        go_returns
        exact ⟨by unfold ixL; rw [HF.out]; rfl, by (repeat' (first | (with_reducible exact Below.refl _ _) | (with_reducible assumption) | (with_reducible refine Below.alloc ?_ ?_ _) | (with_reducible refine Below.drew ?_) | (with_reducible refine below_drewN ?_ _) | (with_reducible refine Below.setCell ?_ ?_ _) | (with_reducible refine below_after ?_ ?_ _) | (with_reducible refine below_set ?_) | (with_reducible refine After.size_le _ ?_) | (with_reducible refine size_alloc_le ?_) | (with_reducible refine size_set_le ?_) | (with_reducible refine size_drewN_le ?_) | go_size))⟩
      · have he : (gb k == m) = false := by simp [e]
        have HE := Lib.hid e
        rw [he] at HC
        clear e he
        go_wp2_with fail
        refine calls_after2 (HC.out _ x.out) ?_
        intro y
        go_wp2
        go_roundw
        case rel => exact ⟨k + 1, by omega, by go_num, Lib.hid (fun j hj => by
          by_cases e2 : j = k
          · subst e2; exact HE.out
          · exact HT.out j (by omega)), y, rfl⟩
        case measure => simp [intOf]; omega
    · obtain rfl : k = n := by omega
      have HF := Lib.hid (fdN_none.2 HT.out)
      go_wp2
      go_returns
      exact ⟨by unfold ixL; rw [HF.out]; rfl, by (repeat' (first | (with_reducible exact Below.refl _ _) | (with_reducible assumption) | (with_reducible refine Below.alloc ?_ ?_ _) | (with_reducible refine Below.drew ?_) | (with_reducible refine below_drewN ?_ _) | (with_reducible refine Below.setCell ?_ ?_ _) | (with_reducible refine below_after ?_ ?_ _) | (with_reducible refine below_set ?_) | (with_reducible refine After.size_le _ ?_) | (with_reducible refine size_alloc_le ?_) | (with_reducible refine size_set_le ?_) | (with_reducible refine size_drewN_le ?_) | go_size))⟩
set_option maxRecDepth 100000 in
set_option maxHeartbeats 1000000 in
theorem containsItem_any (a : Option Addr) (n cap : Nat) (gm : Nat → List UInt8) (gl gd : Nat → Int) (gb : Nat → List UInt8) (m : List UInt8) (B : Nat) (w : World) (hA : ItAt w a n gm gl gd gb) (hn : n ≤ 9223372036854775807) (h0 : w.cell? ⟨B, 0, none⟩ = some (.string (tx m))) :
    Calls Tryd.prog 77 #[.slice a n cap, .func (.func 75) #[] #[.pointer (some ⟨B, 0, none⟩)]] w fun e w' => e = .returned (.bool (fdN gb n m).isSome) ∧ Below w.heap.size w w' := by
  have HI := Lib.hid (fun W' (hW' : Below w.heap.size w W') => indexItem_any a n cap gm gl gd gb m B W' (hA.on hW') hn ((hW'.cell (p := ⟨B, 0, none⟩) (World.block_lt_of_cell? _ _ h0)).trans h0))
  unfold ixL at HI
  clear hA h0
  cases hf : fdN gb n m
  · rw [hf] at HI
    clear hf
    go_enter Tryd.func77, Tryd.ntmps77
    go_wp2_with fail
    refine calls_after (HI.out _ (by (repeat' (first | (with_reducible exact Below.refl _ _) | (with_reducible assumption) | (with_reducible refine Below.alloc ?_ ?_ _) | (with_reducible refine Below.drew ?_) | (with_reducible refine below_drewN ?_ _) | (with_reducible refine Below.setCell ?_ ?_ _) | (with_reducible refine below_after ?_ ?_ _) | (with_reducible refine below_set ?_) | (with_reducible refine After.size_le _ ?_) | (with_reducible refine size_alloc_le ?_) | (with_reducible refine size_set_le ?_) | (with_reducible refine size_drewN_le ?_) | go_size)))) ?_
    intro x1
    go_wp2
    go_ret
    exact ⟨rfl, by (repeat' (first | (with_reducible exact Below.refl _ _) | (with_reducible assumption) | (with_reducible refine Below.alloc ?_ ?_ _) | (with_reducible refine Below.drew ?_) | (with_reducible refine below_drewN ?_ _) | (with_reducible refine Below.setCell ?_ ?_ _) | (with_reducible refine below_after ?_ ?_ _) | (with_reducible refine below_set ?_) | (with_reducible refine After.size_le _ ?_) | (with_reducible refine size_alloc_le ?_) | (with_reducible refine size_set_le ?_) | (with_reducible refine size_drewN_le ?_) | go_size))⟩
  · rename_i i
    rw [hf] at HI
    clear hf
    have hi : (0 : Int) ≤ ((i : Nat) : Int) := by omega
    go_enter Tryd.func77, Tryd.ntmps77
    go_wp2_with fail
    refine calls_after (HI.out _ (by (repeat' (first | (with_reducible exact Below.refl _ _) | (with_reducible assumption) | (with_reducible refine Below.alloc ?_ ?_ _) | (with_reducible refine Below.drew ?_) | (with_reducible refine below_drewN ?_ _) | (with_reducible refine Below.setCell ?_ ?_ _) | (with_reducible refine below_after ?_ ?_ _) | (with_reducible refine below_set ?_) | (with_reducible refine After.size_le _ ?_) | (with_reducible refine size_alloc_le ?_) | (with_reducible refine size_set_le ?_) | (with_reducible refine size_drewN_le ?_) | go_size)))) ?_
    intro x1
    go_wp2
    go_ret
    exact ⟨rfl, by (repeat' (first | (with_reducible exact Below.refl _ _) | (with_reducible assumption) | (with_reducible refine Below.alloc ?_ ?_ _) | (with_reducible refine Below.drew ?_) | (with_reducible refine below_drewN ?_ _) | (with_reducible refine Below.setCell ?_ ?_ _) | (with_reducible refine below_after ?_ ?_ _) | (with_reducible refine below_set ?_) | (with_reducible refine After.size_le _ ?_) | (with_reducible refine size_alloc_le ?_) | (with_reducible refine size_set_le ?_) | (with_reducible refine size_drewN_le ?_) | go_size))⟩
/-- Does a batch touch a rig? -/
def toB (n : Nat) (gm gb : Nat → List UInt8) (bt : List UInt8) (r : Rg) : Bool := (fdN (fun i => gb (ixO n gm r.lm i)) r.m bt).isSome
set_option maxRecDepth 100000 in
set_option maxHeartbeats 2000000 in
theorem touched2_any (C D B : Nat) (av : Option Addr) (nr cv n : Nat) (gm : Nat → List UInt8) (gl gd : Nat → Int) (gb : Nat → List UInt8) (bt : List UInt8) (R : Nat → Rg) (i BQ : Nat) (Q : List (Value × Value)) (w : World) (hC : w.cell? ⟨C, 0, none⟩ = some (.slice av nr cv)) (hD : w.cell? ⟨D, 0, none⟩ = some (.func (.func 75) #[] #[.pointer (some ⟨B, 0, none⟩)])) (hB : w.cell? ⟨B, 0, none⟩ = some (.string (tx bt))) (hQ : w.ownsRow BQ 70 2 (.slice av nr cv) nr (rcv Q)) (hql : Q.length = nr) (hI : OpI w n gm gl gd gb (R i) (Q.getD i (undef, undef))) (hi : i < nr) (hnr : nr ≤ 1000) (hm : (R i).m ≤ 1000) :
    Calls Tryd.prog 76 #[.int .i64 (i : Nat), .pointer (some ⟨C, 0, none⟩), .pointer (some ⟨D, 0, none⟩)] w fun e w' => e = .returned (.bool (toB n gm gb bt (R i))) ∧ Below w.heap.size w w' := by
  have hrI : (nr : Int) ≤ 1000 := by omega
  have hiI : (i : Int) < (nr : Int) := by omega
  obtain ⟨h1, a2, c2, BI, h2, h3⟩ := hI
  obtain ⟨g, c, e⟩ := Go.Joins.ownsRow_form hQ (by omega)
  cases e
  have c1 := hQ.cellAt (i * 2 + 1) (by omega)
  rw [(rcv_get (Q := Q) (i := i) (by omega)).2, h2] at c1
  have hg := (hQ.lt g rfl).2
  have HC := Lib.hid (fun W (hW : Below w.heap.size w W) => containsItem_any a2 (R i).m c2 _ _ _ _ bt B W ((itAt_row h3).on hW) (by omega) ((hW.cell (p := ⟨B, 0, none⟩) (World.block_lt_of_cell? _ _ hB)).trans hB))
  have s0 := World.block_lt_of_cell? w _ hC
  have s1 := World.block_lt_of_cell? w _ hD
  dsimp only at s0 s1
  unfold toB
  clear hQ h1 h2 h3 hB hql hm
  generalize (fdN (fun k => gb (ixO n gm (R i).lm k)) (R i).m bt).isSome = b at *
  generalize (R i).m = m at *
  go_enter Tryd.func76, Tryd.ntmps76
  go_wp2_with fail
  refine wp_region_after (by kernel_rfl) (by kernel_rfl) ?_; (repeat (first | go_big_quiet_step (((go_at_call 77; exact quiet_after (HC.out _ (by (repeat' (first | (with_reducible exact Below.refl _ _) | (with_reducible assumption) | (with_reducible refine Below.alloc ?_ ?_ _) | (with_reducible refine Below.drew ?_) | (with_reducible refine below_drewN ?_ _) | (with_reducible refine Below.setCell ?_ ?_ _) | (with_reducible refine below_after ?_ ?_ _) | (with_reducible refine below_set ?_) | (with_reducible refine After.size_le _ ?_) | (with_reducible refine size_alloc_le ?_) | (with_reducible refine size_set_le ?_) | (with_reducible refine size_drewN_le ?_) | go_size))))))) | (refine wpQuiet_step (fun K hK => ?_); go_simp; first | (refine hK _ ?_; clear hK K) | (apply Exists.intro; refine ⟨fun x => ?_, hK _ ?_⟩; ((go_at_call 77; exact quiet_after (HC.out _ (by (repeat' (first | (with_reducible exact Below.refl _ _) | (with_reducible assumption) | (with_reducible refine Below.alloc ?_ ?_ _) | (with_reducible refine Below.drew ?_) | (with_reducible refine below_drewN ?_ _) | (with_reducible refine Below.setCell ?_ ?_ _) | (with_reducible refine below_after ?_ ?_ _) | (with_reducible refine below_set ?_) | (with_reducible refine After.size_le _ ?_) | (with_reducible refine size_alloc_le ?_) | (with_reducible refine size_set_le ?_) | (with_reducible refine size_drewN_le ?_) | go_size)))))); clear hK K)))); refine wpQuiet_nil ?_
  intro y
  go_wp2
  go_ret
  exact ⟨rfl, by (repeat' (first | (with_reducible exact Below.refl _ _) | (with_reducible assumption) | (with_reducible refine Below.alloc ?_ ?_ _) | (with_reducible refine Below.drew ?_) | (with_reducible refine below_drewN ?_ _) | (with_reducible refine Below.setCell ?_ ?_ _) | (with_reducible refine below_after ?_ ?_ _) | (with_reducible refine below_set ?_) | (with_reducible refine After.size_le _ ?_) | (with_reducible refine size_alloc_le ?_) | (with_reducible refine size_set_le ?_) | (with_reducible refine size_drewN_le ?_) | go_size))⟩
/-- What Touched and Taken answer. -/
def ToA (c : Int) (L : List Nat) (W : World) (e : Ending) : Prop :=
  (c ≠ 0 ∧ e = .returned (.tuple #[.slice none 0 0, .int .i64 c])) ∨ (c = 0 ∧ ∃ v, e = .returned (.tuple #[v, .int .i64 0]) ∧ NAt W v L)
set_option maxRecDepth 100000 in
set_option maxHeartbeats 4000000 in
theorem touched_say (a : Option Addr) (n cap : Nat) (gm : Nat → List UInt8) (gl gd : Nat → Int) (gb : Nat → List UInt8) (ar : Option Addr) (nr capr : Nat) (R : Nat → Rg) (bt : List UInt8) (w : World) (hA : ItAt w a n gm gl gd gb) (hR : RgAt w ar nr R) (hRo : RgOk nr R) (hRm : ∀ k, k < nr → (R k).m ≤ 1000) (hn : n ≤ 1000) (hnr : nr ≤ 1000) (h1 : Sht n gm) (h2 : Sht n gb) :
    Calls Tryd.prog 40 #[.slice a n cap, .slice ar nr capr, .string (tx bt)] w fun e w' => ToA (oaE (vgB n gm gl gd gb) n gm R nr) (thN (fun i => toB n gm gb bt (R i)) nr) w' e ∧ Below w.heap.size w w' := by
  have HO := Lib.hid (fun W (hW : Below w.heap.size w W) => openAll_any a n cap gm gl gd gb ar nr capr R W (hA.on hW) (hR.on hW) hRo hRm hn hnr h1 h2)
  have HM := Lib.hid hRm
  have hrI : (nr : Int) ≤ 1000 := by omega
  clear hA hR hRo hRm h1 h2
  generalize oaE (vgB n gm gl gd gb) n gm R nr = c at *
  go_enter Tryd.func40, Tryd.ntmps40
  go_wp2_with fail
  refine (HO.out _ (by (repeat' (first | (with_reducible exact Below.refl _ _) | (with_reducible assumption) | (with_reducible refine Below.alloc ?_ ?_ _) | (with_reducible refine Below.drew ?_) | (with_reducible refine below_drewN ?_ _) | (with_reducible refine Below.setCell ?_ ?_ _) | (with_reducible refine below_after ?_ ?_ _) | (with_reducible refine below_set ?_) | (with_reducible refine After.size_le _ ?_) | (with_reducible refine size_alloc_le ?_) | (with_reducible refine size_set_le ?_) | (with_reducible refine size_drewN_le ?_) | go_size)))).mono ?_
  rintro e w2 ⟨hr, hb2⟩
  have hs := hb2.size
  simp at hs
  have cb : w2.cell? ⟨w.heap.size, 0, none⟩ = some (.string (tx bt)) := (hb2.cell (p := ⟨w.heap.size, 0, none⟩) (by simp)).trans (by simp [go_sem])
  have HB2 := Lib.hid (((Below.refl _ w).alloc (Nat.le_refl _) (.cells #[.string (tx bt)] 9)).trans (hb2.mono (by simp)))
  clear hb2 HO
  rcases hr with ⟨hc, rfl⟩ | ⟨rfl, v, BQ, Q, hql, rfl, hQ, hI⟩
  · have hne : (c != 0) = true := by simp [hc]
    have HC := Lib.hid hc
    have HBf := Lib.hid (HB2.out.alloc HB2.out.size (.cells #[.slice none 0 0] 90))
    clear hc
    go_wp2
    go_returns
    exact ⟨.inl ⟨HC.out, rfl⟩, HBf.out⟩
  · obtain ⟨av, cv, rfl⟩ := ownsR_shape hQ
    have HQ := Lib.hid hQ
    have HI := Lib.hid hI
    have HQl := Lib.hid hql
    clear hQ hI hql
    obtain ⟨W5, hW5⟩ : ∃ W5, (w2.alloc (.cells #[.slice av nr cv] 90)).alloc (.cells #[.func (.func 75) #[] #[.pointer (some ⟨w.heap.size, 0, none⟩)]] 94) = W5 := ⟨_, rfl⟩
    have b25 : Below w2.heap.size w2 W5 := by rw [← hW5]; (repeat' (first | (with_reducible exact Below.refl _ _) | (with_reducible assumption) | (with_reducible refine Below.alloc ?_ ?_ _) | (with_reducible refine Below.drew ?_) | (with_reducible refine below_drewN ?_ _) | (with_reducible refine Below.setCell ?_ ?_ _) | (with_reducible refine below_after ?_ ?_ _) | (with_reducible refine below_set ?_) | (with_reducible refine After.size_le _ ?_) | (with_reducible refine size_alloc_le ?_) | (with_reducible refine size_set_le ?_) | (with_reducible refine size_drewN_le ?_) | go_size))
    have c5 : W5.cell? ⟨w2.heap.size, 0, none⟩ = some (.slice av nr cv) := by rw [← hW5]; simp [go_sem]
    have f5 : W5.cell? ⟨w2.heap.size + 1, 0, none⟩ = some (.func (.func 75) #[] #[.pointer (some ⟨w.heap.size, 0, none⟩)]) := by rw [← hW5]; simp [go_sem]
    have b5 := (b25.cell (p := ⟨w.heap.size, 0, none⟩) (World.block_lt_of_cell? _ _ cb)).trans cb
    have HB5 := Lib.hid (HB2.out.trans (b25.mono HB2.out.size))
    have HTh := Lib.hid (those_any 76 #[] #[.pointer (some ⟨w2.heap.size, 0, none⟩), .pointer (some ⟨w2.heap.size + 1, 0, none⟩)] (enters_of Tryd.func76 (by kernel_rfl) rfl) nr (fun i => toB n gm gb bt (R i)) W5 (by omega) (fun i hi W hW => by
      have on : ∀ {p : Addr} {v : Value}, W5.cell? p = some v → W.cell? p = some v := fun {p v} h => (hW.cell (p := p) (World.block_lt_of_cell? _ _ h)).trans h
      exact touched2_any w2.heap.size (w2.heap.size + 1) w.heap.size av nr cv n gm gl gd gb bt R i BQ Q W (on c5) (on f5) (on b5) (ownsR_stay (ownsR_stay HQ.out b25) hW) HQl.out (((HI.out i hi).on b25).on hW) hi hnr (HM.out i hi)))
    clear f5 b5 b25
    go_wp2_with fail
    refine HTh.out.mono ?_
    rintro e w6 ⟨v, rfl, hO6, hb6⟩
    have HN := Lib.hid (nat_of hO6)
    have HB6 := Lib.hid (HB5.out.trans (hb6.mono HB5.out.size))
    clear hO6 hb6 HTh
    go_wp2
    go_returns
    exact ⟨.inr ⟨rfl, _, rfl, HN.out⟩, HB6.out⟩
end Go.Proofs.YtmbjgaeofkikkaaDoor
