/- The program's readCourse. -/
import Derived.Test.YtcaelmaoldmgpaaDoorSixd1
import Derived.Test.YtcaelmaoldmgpaaDoorSixd2
import Derived.Test.YtcaelmaoldmgpaaDoorSixd3
import Derived.Deep.RegionWith
import Derived.Deep.DeepCutAuto
import Derived.Deep.RegionHeld3
namespace Go.Proofs.YtcaelmaoldmgpaaDoor
open Go.RowKit Cr
attribute [local go_sem] After.cell After.frozen After.lt After.le After.ne After.ne' After.lt_add tx_size tx_toList

set_option maxRecDepth 100000 in
set_option maxHeartbeats 1000000 in
theorem readCourse_len (s : List UInt8) (hs : s.length ≤ 65536) (w : World) (hS : Std w) (h6 : (wordsL 32 s).length ≠ 6) :
    Calls Tryd.prog 21 #[.string (tx s)] w fun e w' => RdAns s e ∧ Below w.heap.size w w' := by
  have HS : Hid (∀ W, Below w.heap.size w W → Calls Tryd.prog 45 #[.string (tx s), .string (tx [32])] W _) := Lib.hid fun W hW => split_any hs (hS.on hW)
  have HA : Hid (∀ e, e = .returned (.tuple #[.agg #[.int .i64 0, .int .i64 0, .int .i64 0, .int .i64 0, .int .i64 0, .int .i64 0], .bool false]) → RdAns s e) := Lib.hid fun e he => ⟨fun _ => 0, false, he, (fun h => by cases h), fun _ G _ => rd_len h6 G⟩
  have h6' : (((wordsL 32 s).length : Int) == 6) = false := by rw [beq_eq_false_iff_ne]; omega
  clear hS h6
  have e0 : (⟨#[32]⟩ : ByteArray) = tx [32] := rfl
  go_enter Tryd.func21, Tryd.ntmps21
  go_wp2_with fail
  refine (HS.out _ (by (repeat' (first | (with_reducible exact Below.refl _ _) | (with_reducible assumption) | (with_reducible refine Below.alloc ?_ ?_ _) | (with_reducible refine Below.drew ?_) | (with_reducible refine below_drewN ?_ _) | (with_reducible refine Below.setCell ?_ ?_ _) | (with_reducible refine below_after ?_ ?_ _) | (with_reducible refine below_set ?_) | (with_reducible refine After.size_le _ ?_) | (with_reducible refine size_alloc_le ?_) | (with_reducible refine size_set_le ?_) | (with_reducible refine size_drewN_le ?_) | go_size)))).mono ?_
  rintro e w1 ⟨⟨v1, rfl, a, cap, rfl, -⟩, hb1⟩
  have hz := (has6_new w 38 (fun _ => 0)).on (hb1.mono (by simp))
  have hbw : Below w.heap.size w w1 := Below.trans (b := w.alloc (.cells #[.int .i64 0, .int .i64 0, .int .i64 0, .int .i64 0, .int .i64 0, .int .i64 0] 38)) (by (repeat' (first | (with_reducible exact Below.refl _ _) | (with_reducible assumption) | (with_reducible refine Below.alloc ?_ ?_ _) | (with_reducible refine Below.drew ?_) | (with_reducible refine below_drewN ?_ _) | (with_reducible refine Below.setCell ?_ ?_ _) | (with_reducible refine below_after ?_ ?_ _) | (with_reducible refine below_set ?_) | (with_reducible refine After.size_le _ ?_) | (with_reducible refine size_alloc_le ?_) | (with_reducible refine size_set_le ?_) | (with_reducible refine size_drewN_le ?_) | go_size))) (hb1.mono (by simp))
  obtain ⟨x1, rfl⟩ := after_of' hbw
  clear hb1 HS hbw
  go_wp2_with fail
  refine (numbers_new _ _ _ _ _ _ _).mono ?_
  rintro e w2 ⟨rfl, hb2⟩
  obtain ⟨V, hV⟩ : ∃ V, w2.alloc (.cells #[.int .i64 0, .int .i64 0, .int .i64 0, .int .i64 0, .int .i64 0, .int .i64 0] 91) = V := ⟨_, rfl⟩
  have hbw2 := x1.out.trans (hb2.mono x1.out.size)
  have hz1 : Has6 V w.heap.size (fun _ => 0) := by rw [← hV]; exact (hz.on hb2).on ((Below.refl _ _).alloc (Nat.le_refl _) _)
  have hbV : Below w.heap.size w V := by rw [← hV]; exact hbw2.alloc hbw2.size _
  have HV := Lib.hid hV
  clear hz hb2 hbw2 hV
  go_upto_region 3 with (fail)
  rw [HV.out]
  clear HV
  obtain ⟨X, hX, HX6, HXb⟩ := put6 (fun _ => 0) hz1 hbV
  have c0 : V.cell? ⟨w.heap.size, 0, none⟩ = some (.int .i64 0) := hz1.got 0 (by omega)
  have c1 : V.cell? ⟨w.heap.size, 1, none⟩ = some (.int .i64 0) := hz1.got 1 (by omega)
  have c2 : V.cell? ⟨w.heap.size, 2, none⟩ = some (.int .i64 0) := hz1.got 2 (by omega)
  have c3 : V.cell? ⟨w.heap.size, 3, none⟩ = some (.int .i64 0) := hz1.got 3 (by omega)
  have c4 : V.cell? ⟨w.heap.size, 4, none⟩ = some (.int .i64 0) := hz1.got 4 (by omega)
  have c5 : V.cell? ⟨w.heap.size, 5, none⟩ = some (.int .i64 0) := hz1.got 5 (by omega)
  have cf := hz1.free
  have HX := Lib.hid hX
  clear hz1 hX hbV
  go_wp2_with fail
  have hX := HX.out
  unfold set6 at hX
  dsimp only at hX
  rw [hX]
  have k0 := HX6.got 0 (by omega)
  have k1 := HX6.got 1 (by omega)
  have k2 := HX6.got 2 (by omega)
  have k3 := HX6.got 3 (by omega)
  have k4 := HX6.got 4 (by omega)
  have k5 := HX6.got 5 (by omega)
  exact bodyPost_ret (v := .tuple #[.agg #[.int .i64 0, .int .i64 0, .int .i64 0, .int .i64 0, .int .i64 0, .int .i64 0], .bool false]) (by simp [results, Tryd.results21, go_sem, k0, k1, k2, k3, k4, k5]) rfl ⟨HA.out _ rfl, HXb⟩

theorem readCourse_any {s : List UInt8} (hs : s.length ≤ 65536) {w : World} (hS : Std w) :
    Calls Tryd.prog 21 #[.string (tx s)] w fun e w' => RdAns s e ∧ Below w.heap.size w w' := by
  by_cases h : (wordsL 32 s).length = 6
  · by_cases hO : OkR (gvL (wordsL 32 s))
    · by_cases hE : rowL (gvL (wordsL 32 s)) = s
      · exact readCourse_yes s hs w hS h hO hE
      · exact readCourse_other s hs w hS h hO hE
    · exact readCourse_bad s hs w hS h hO
  · exact readCourse_len s hs w hS h
end Go.Proofs.YtcaelmaoldmgpaaDoor
