/- The program's readCourse: six words (readCourse_yes). -/
import Derived.Test.YtcaelmaoldmgpaaDoorSixv
import Derived.Deep.RegionWith
import Derived.Deep.DeepCutAuto
import Derived.Deep.RegionHeld3
namespace Go.Proofs.YtcaelmaoldmgpaaDoor
open Go.RowKit Cr
attribute [local go_sem] After.cell After.frozen After.lt After.le After.ne After.ne' After.lt_add tx_size tx_toList


set_option maxRecDepth 1000000 in
set_option maxHeartbeats 20000000 in
theorem readCourse_yes (s : List UInt8) (hs : s.length ≤ 65536) (w : World) (hS : Std w) (h6 : (wordsL 32 s).length = 6) (hO : OkR (gvL (wordsL 32 s))) (hE : rowL (gvL (wordsL 32 s)) = s) :
    Calls Tryd.prog 21 #[.string (tx s)] w fun e w' => RdAns s e ∧ Below w.heap.size w w' := by
  have hle : ∀ x ∈ wordsL 32 s, x.length ≤ 65536 := fun x hx => by have := words_le 32 s x hx; omega
  have HS : Hid (∀ W, Below w.heap.size w W → Calls Tryd.prog 45 #[.string (tx s), .string (tx [32])] W _) := Lib.hid fun W hW => split_any hs (hS.on hW)
  have HAt : Hid (∀ t, t ∈ wordsL 32 s → ∀ W, Below w.heap.size w W → Calls Tryd.prog 47 #[.string (tx t)] W _) := Lib.hid fun t ht W hW => atoi_val (hle t ht) (hS.on hW)
  have HWF := Lib.hid (fun W (hW : Below w.heap.size w W) => writeCourse_any (gvL (wordsL 32 s)) W (gvL_in _) (hS.on hW))
  have HRF := Lib.hid (rd_of (gvL_itoa (wordsL 32 s)) (s := s))
  have HGa : Hid (∀ j t, (wordsL 32 s)[j]? = some t → gvL (wordsL 32 s) j = atoiV t) := Lib.hid fun _ _ h => gvL_at h
  generalize gvL (wordsL 32 s) = F at *
  have HV : Hid (∀ W : World, Calls Tryd.prog 48 #[.agg #[.int .i64 (F 0), .int .i64 (F 1), .int .i64 (F 2), .int .i64 (F 3), .int .i64 (F 4), .int .i64 (F 5)]] W fun e w' => e = .returned (.bool (decide (OkR F))) ∧ Below W.heap.size W w') := Lib.hid fun W => validCourse_any _ _ _ _ _ _ W
  have hE' : (rowL F == s) = true := beq_iff_eq.2 hE
  rw [decide_eq_true hO] at HV HRF
  rw [hE'] at HRF
  clear hO hE
  clear hS hle
  generalize wordsL 32 s = ws at *
  have e0 : (⟨#[32]⟩ : ByteArray) = tx [32] := rfl
  go_enter Tryd.func21, Tryd.ntmps21
  go_wp2_with fail
  refine (HS.out _ (by (repeat' (first | (with_reducible exact Below.refl _ _) | (with_reducible assumption) | (with_reducible refine Below.alloc ?_ ?_ _) | (with_reducible refine Below.drew ?_) | (with_reducible refine below_drewN ?_ _) | (with_reducible refine Below.setCell ?_ ?_ _) | (with_reducible refine below_after ?_ ?_ _) | (with_reducible refine below_set ?_) | (with_reducible refine After.size_le _ ?_) | (with_reducible refine size_alloc_le ?_) | (with_reducible refine size_set_le ?_) | (with_reducible refine size_drewN_le ?_) | go_size)))).mono ?_
  rintro e w1 ⟨⟨v1, rfl, a, cap, rfl, hcell⟩, hb1⟩
  obtain ⟨g, rfl, hg, hcell⟩ := hcell (by omega)
  have hz := (has6_new w 38 (fun _ => 0)).on (hb1.mono (by simp))
  have hbw : Below w.heap.size w w1 := Below.trans (b := w.alloc (.cells #[.int .i64 0, .int .i64 0, .int .i64 0, .int .i64 0, .int .i64 0, .int .i64 0] 38)) (by (repeat' (first | (with_reducible exact Below.refl _ _) | (with_reducible assumption) | (with_reducible refine Below.alloc ?_ ?_ _) | (with_reducible refine Below.drew ?_) | (with_reducible refine below_drewN ?_ _) | (with_reducible refine Below.setCell ?_ ?_ _) | (with_reducible refine below_after ?_ ?_ _) | (with_reducible refine below_set ?_) | (with_reducible refine After.size_le _ ?_) | (with_reducible refine size_alloc_le ?_) | (with_reducible refine size_set_le ?_) | (with_reducible refine size_drewN_le ?_) | go_size))) (hb1.mono (by simp))
  obtain ⟨x1, rfl⟩ := after_of' hbw
  clear hb1 HS hbw
  go_wp2_with fail
  refine (numbers_new _ _ _ _ _ _ _).mono ?_
  rintro e w2 ⟨rfl, hb2⟩
  have HZ := Lib.hid (hz.on hb2)
  have HBw := Lib.hid (x1.out.trans (hb2.mono x1.out.size))
  have hg2 : g < w2.heap.size := Nat.lt_of_lt_of_le hg hb2.size
  have HC : Hid (∀ (i : Nat) (x : List UInt8), ws[i]? = some x → w2.cell? ⟨g, i, none⟩ = some (.string (tx x))) := Lib.hid fun i x hx => (hb2.cell (p := ⟨g, i, none⟩) hg).trans (hcell i x hx)
  clear hz hb2 hcell
  go_upto_region 3 with (fail)
  go_wp2
  go_loopw [19] (fun i wr => ∃ (k : Nat) (f : Nat → Int) (y : After w2), k ≤ 6 ∧ i = .int .i64 k ∧ wr = y.w ∧ Has6 y.w w2.heap.size f ∧ ∀ j, j < k → f j = F j) (fun i _ => 6 - (intOf i).toNat)
  case atStart => exact ⟨0, fun _ => 0, ⟨w2.alloc (.cells #[.int .i64 0, .int .i64 0, .int .i64 0, .int .i64 0, .int .i64 0, .int .i64 0] 91), (Below.refl _ _).alloc (Nat.le_refl _) _⟩, by omega, rfl, rfl, has6_new w2 _ (fun _ => 0), fun j hj => absurd hj (by omega)⟩
  case round =>
    obtain ⟨k, f, y, hk, rfl, rfl, hN, hgood⟩ := hrel
    have hby : Below w.heap.size w y.w := HBw.out.trans (y.out.mono HBw.out.size)
    have HG := Lib.hid hgood
    clear hgood
    by_cases hlt : k < 6
    · obtain ⟨t, ht⟩ : ∃ t, ws[k]? = some t := ⟨_, List.getElem?_eq_getElem (by omega)⟩
      have hc : y.w.cell? ⟨g, k, none⟩ = some (.string (tx t)) := (y.out.cell (p := ⟨g, k, none⟩) hg2).trans (HC.out k t ht)
      have HA := Lib.hid (HAt.out t (List.mem_of_getElem? ht) y.w hby)
      have HT := Lib.hid ht
      have hki : (k : Int) < 6 := by omega
      clear ht hby
      go_wp2_with fail
      refine HA.out.mono ?_
      rintro e2 w3 ⟨⟨err, rfl, herr⟩, hb3⟩
      have hN3 := hN.on hb3
      have ck := hN3.got k hlt
      have fk := hN3.free k
      have HN4 := Lib.hid (hN3.set k (atoiV t) hlt)
      have HY : Hid (Below w2.heap.size w2 (w3.setCell ⟨w2.heap.size, k, none⟩ (.int .i64 (atoiV t)))) := Lib.hid ((y.out.trans (hb3.mono y.out.size)).setCell (p := ⟨w2.heap.size, k, none⟩) (Nat.le_refl _) _)
      clear hN3 hb3 hN HA hc herr
      go_wp2_with fail
      go_roundw
      case rel => exact ⟨k + 1, _, ⟨_, HY.out⟩, by omega, by go_num, rfl, HN4.out, fun j hj => by
          by_cases e : j = k
          · subst e
            simp only [if_pos]
            exact (HGa.out j t HT.out).symm
          · simp only [if_neg e]
            exact HG.out j (by omega)⟩
      case measure => simp [intOf]; omega
    · obtain rfl : k = 6 := by omega
      replace hN := hN.congr (fun j hj => HG.out j hj)
      obtain ⟨k0, k1, k2, k3, k4, k5⟩ := hN.six
      obtain ⟨V, hV⟩ : ∃ V, y.w.alloc (.cells #[.int .i64 (F 0), .int .i64 (F 1), .int .i64 (F 2), .int .i64 (F 3), .int .i64 (F 4), .int .i64 (F 5)] 38) = V := ⟨_, rfl⟩
      obtain ⟨cb, hcb⟩ : ∃ cb, y.w.heap.size = cb := ⟨_, rfl⟩
      have HAtV : Hid (At w F cb V) := Lib.hid (by
        rw [← hV, ← hcb]
        exact ⟨hby.alloc hby.size _, (HZ.out.on y.out).on ((Below.refl _ _).alloc (Nat.le_refl _) _), has6_new y.w _ F⟩)
      have HVe := Lib.hid hV
      have HCb := Lib.hid hcb
      have hne : cb ≠ w.heap.size := by have := HZ.out.lt; have := y.out.size; omega
      have hne' : w.heap.size ≠ cb := Ne.symm hne
      clear hN hby HG hV hcb
      go_upto_region 11 with (fail)
      rw [HVe.out, HCb.out]
      clear HVe HCb k0 k1 k2 k3 k4 k5
      obtain ⟨⟨d0, d1, d2, d3, d4, d5⟩, df, c0, c1, c2, c3, c4, c5⟩ := HAtV.out.facts
      (try clear HGa); (try clear HC); (try clear HAt); (try clear HBw); (try clear HZ); (try clear h6); (try clear hg2); (try clear hg); (try clear hk); (try clear hlt)
      go_region_with (first | (go_at_call 48; refine (HV.out _).mono ?_; rintro e w5 ⟨rfl, hb5⟩; have HAt5 : Hid (At w F cb w5) := Lib.hid (by first | exact HAtV.out.on hb5 | exact HAtV.out.drew.on hb5); obtain ⟨⟨d0, d1, d2, d3, d4, d5⟩, df, c0, c1, c2, c3, c4, c5⟩ := HAt5.out.facts) | (go_at_call 27; refine (HWF.out _ HAt5.out.1).mono ?_; rintro e w6 ⟨rfl, hb6⟩; have HAt6 : Hid (At w F cb w6) := Lib.hid (HAt5.out.on hb6); obtain ⟨⟨d0, d1, d2, d3, d4, d5⟩, df, c0, c1, c2, c3, c4, c5⟩ := HAt6.out.facts))
      all_goals
        go_wp2_with fail
        obtain ⟨X, hX, HX6, HXb⟩ := HAt6.out.put
        unfold set6 at hX
        rw [hX]
        obtain ⟨k0, k1, k2, k3, k4, k5⟩ := HX6.six
        exact bodyPost_ret (v := .tuple #[.agg #[.int .i64 (F 0), .int .i64 (F 1), .int .i64 (F 2), .int .i64 (F 3), .int .i64 (F 4), .int .i64 (F 5)], .bool true]) (by simp [results, Tryd.results21, go_sem, k0, k1, k2, k3, k4, k5]) rfl ⟨HRF.out true rfl _ rfl, HXb⟩
end Go.Proofs.YtcaelmaoldmgpaaDoor
