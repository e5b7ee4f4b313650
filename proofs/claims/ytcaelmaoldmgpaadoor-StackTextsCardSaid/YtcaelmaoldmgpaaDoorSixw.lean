/- The program's numbers and writeCourse. -/
import Derived.Test.YtcaelmaoldmgpaaDoorSixm
import Derived.Test.YtcaelmaoldmgpaaDoorSplitt
import Derived.Test.YtcaelmaoldmgpaaDoorBld
import Derived.Lib.Join
namespace Go.Proofs.YtcaelmaoldmgpaaDoor
open Go.RowKit
attribute [local go_sem] After.cell After.frozen After.lt After.le After.ne After.ne' After.set_eq After.size_set After.lt_add tx_size tx_toList

def ag6 (F : Nat → Int) : Value := .agg #[.int .i64 (F 0), .int .i64 (F 1), .int .i64 (F 2), .int .i64 (F 3), .int .i64 (F 4), .int .i64 (F 5)]
def I6 (F : Nat → Int) : Prop := ∀ j, j < 6 → I64 (F j)
theorem OkR.i6 {F : Nat → Int} (h : OkR F) : I6 F := fun j hj => by have := h.in6 j hj; unfold In18 at this; unfold I64; omega
set_option maxHeartbeats 1000000 in
theorem numbers_new (a0 a1 a2 a3 a4 a5 : Int) (w : World) :
    Calls Tryd.prog 46 #[.agg #[.int .i64 a0, .int .i64 a1, .int .i64 a2, .int .i64 a3, .int .i64 a4, .int .i64 a5]] w fun e w' => e = .returned (.agg #[.int .i64 a0, .int .i64 a1, .int .i64 a2, .int .i64 a3, .int .i64 a4, .int .i64 a5]) ∧ Below w.heap.size w w' := by
  go_enter Tryd.func46, Tryd.ntmps46
  go_wp2
  go_returns
  exact ⟨rfl, by (repeat' (first | (with_reducible exact Below.refl _ _) | (with_reducible assumption) | (with_reducible refine Below.alloc ?_ ?_ _) | (with_reducible refine Below.drew ?_) | (with_reducible refine below_drewN ?_ _) | (with_reducible refine Below.setCell ?_ ?_ _) | (with_reducible refine below_after ?_ ?_ _) | (with_reducible refine below_set ?_) | (with_reducible refine After.size_le _ ?_) | (with_reducible refine size_alloc_le ?_) | (with_reducible refine size_set_le ?_) | (with_reducible refine size_drewN_le ?_) | go_size))⟩
theorem run_six (F : Nat → Int) {k : Nat} (hk : k < 6) (w : World) : (Instr.index 91 (ag6 F) (.int .i64 (k : Nat))).run Tryd.prog w = .ok (.int .i64 (F k)) w := by
  rcases (show k = 0 ∨ k = 1 ∨ k = 2 ∨ k = 3 ∨ k = 4 ∨ k = 5 by omega) with rfl | rfl | rfl | rfl | rfl | rfl <;> simp [ag6, Instr.index, asIntOf, part, isAgg, run_underlying Tryd.underlying91, go_sem]
theorem six_take (F : Nat → Int) {k : Nat} (hk : k < 6) : (sixW F).take (k + 1) = (sixW F).take k ++ [Lib.itoa (F k)] := by
  rcases (show k = 0 ∨ k = 1 ∨ k = 2 ∨ k = 3 ∨ k = 4 ∨ k = 5 by omega) with rfl | rfl | rfl | rfl | rfl | rfl <;> rfl
theorem join_six (F : Nat → Int) : Lib.join (((sixW F).map tx).map (·.data.toList)) (tx [32]).data.toList = rowL F := by
  have e : ((sixW F).map tx).map (·.data.toList) = sixW F := by
    rw [List.map_map]
    simp [Function.comp_def, tx]
  rw [e]
  simp [Lib.join, List.intercalate, sixW, rowL, joinW, tx]
theorem row_len64 {F : Nat → Int} (h : I6 F) : (rowL F).length ≤ 125 := by
  have b : ∀ j, j < 6 → (Lib.itoa (F j)).length ≤ 20 := fun j hj => by
    have := h j hj
    unfold I64 at this
    exact itoa_len this.1 this.2
  have b0 := b 0 (by omega)
  have b1 := b 1 (by omega)
  have b2 := b 2 (by omega)
  have b3 := b 3 (by omega)
  have b4 := b 4 (by omega)
  have b5 := b 5 (by omega)
  simp only [rowL, sixW, joinW, List.length_append, List.length_cons]
  omega
theorem join_own {F : Nat → Int} {w : World} {B : Nat} {v : Value} (hF : I6 F) (h : w.ownsRow B 9 1 v 6 (wvs (sixW F))) :
    Calls Tryd.prog 55 #[v, .string (tx [32])] w fun e w' => e = .returned (.string (tx (rowL F))) ∧ Below w.heap.size w w' := by
  obtain ⟨g, cap, rfl⟩ := Go.Joins.ownsRow_form h (by omega)
  have hg := (h.lt g rfl).2
  have hc : 6 ≤ cap := by
    rcases h.2 with ⟨e, _⟩ | ⟨g', cap', _, e, _, _, h1, _⟩
    · cases e
    · cases e; exact h1
  have hj := join_six F
  have hl := row_len64 hF
  have := Tryd.strings_Join g 0 cap ((sixW F).map tx) (tx [32]) w (fun j x hx => by
    rw [List.getElem?_map] at hx
    obtain ⟨y, hy, rfl⟩ := Option.map_eq_some_iff.1 hx
    have hj6 : j < 6 := (List.getElem?_eq_some_iff.1 hy).1
    rw [Nat.zero_add, h.cellAt _ (by omega)]
    simp [wvs, hy]) hg (by simp [sixW]) (by simpa [sixW] using hc) (by rw [hj]; omega)
  rw [hj] at this
  exact this

set_option maxRecDepth 100000 in
set_option maxHeartbeats 1000000 in
theorem writeCourse_any (F : Nat → Int) (w : World) (hF : I6 F) (hS : Std w) :
    Calls Tryd.prog 27 #[.agg #[.int .i64 (F 0), .int .i64 (F 1), .int .i64 (F 2), .int .i64 (F 3), .int .i64 (F 4), .int .i64 (F 5)]] w fun e w' => e = .returned (.string (tx (rowL F))) ∧ Below w.heap.size w w' := by
  obtain ⟨i0, hi, hz0, hz1, hz2⟩ := info_parts strInfo
  have HS := Lib.hid (fun W (hW : Below w.heap.size w W) => hS.on hW)
  have HF := Lib.hid hF
  have e32 : (⟨#[32]⟩ : ByteArray) = tx [32] := rfl
  clear hS hF
  go_enter Tryd.func27, Tryd.ntmps27
  go_wp2_with fail
  refine (numbers_new _ _ _ _ _ _ _).mono ?_
  rintro e w1 ⟨rfl, hb1⟩
  have hx1 : Below w.heap.size w w1 := Below.trans (by (repeat' (first | (with_reducible exact Below.refl _ _) | (with_reducible assumption) | (with_reducible refine Below.alloc ?_ ?_ _) | (with_reducible refine Below.drew ?_) | (with_reducible refine below_drewN ?_ _) | (with_reducible refine Below.setCell ?_ ?_ _) | (with_reducible refine below_after ?_ ?_ _) | (with_reducible refine below_set ?_) | (with_reducible refine After.size_le _ ?_) | (with_reducible refine size_alloc_le ?_) | (with_reducible refine size_set_le ?_) | (with_reducible refine size_drewN_le ?_) | go_size))) (hb1.mono (by simp))
  obtain ⟨x1, rfl⟩ := after_of' hx1
  clear hb1 hx1
  go_wp2
  go_loopw [3, 8] (fun v i wr => ∃ k : Nat, k ≤ 6 ∧ i = .int .i64 k ∧ ∃ y : After w, wr = y.w ∧ y.w.ownsRow w.heap.size 9 1 v k (wvs ((sixW F).take k))) (fun _ i _ => 6 - (intOf i).toNat)
  case atStart => exact ⟨0, by omega, rfl, x1, rfl, by simpa [wvs] using World.ownsRow_nil _ _ _ _⟩
  case round =>
    obtain ⟨k, hk, rfl, y, rfl, hown⟩ := hrel
    by_cases hlt : k < 6
    · have hkn : (k : Int) < 6 := by omega
      have hix := run_six F hlt
      unfold ag6 at hix
      have hT := Lib.hid (six_take F hlt)
      have HI := Lib.hid (itoa_any (HF.out k hlt) (HS.out y.w y.out))
      go_wp2_with fail
      refine HI.out.mono ?_
      rintro e2 w2 ⟨rfl, hb2⟩
      have hown2 := owns_rest hown hb2
      obtain ⟨y2, rfl⟩ := after_of' (y.out.trans (hb2.mono y.out.size))
      have hsy2 := y2.out.size
      clear hb2 hown HI
      generalize Lib.itoa (F k) = T at *
      go_wp2_with (at_builtin; refine wpList_append_own _ rfl _ _ 43 rfl w.heap.size 9 i0 (.string ByteArray.empty) 1 16 Tryd.underlying43 hi hz0 hz1 hz2 rfl (by decide) _ _ _ rfl (hown2.alloc _) ⟨y2.w.heap.size, 0, none⟩ 1 1 [.string (tx T)] rfl rfl (World.news_of_block (cs := #[.string (tx T)]) (t := 9) (fr := (0, 0)) (heap_alloc_new y2.w _)) (by simp [Value.oneCell']) (by unfold maxLen; omega) (by omega) (by simp; omega) ?_; intro v' w3 hown' hgrow _)
      go_roundw
      case rel => exact ⟨k + 1, by omega, by go_num, ⟨w3, (y2.out.alloc hsy2 _).grown hgrow (by simp; omega) (fun j e => (hown2.lt j e).1)⟩, rfl, by rw [hT.out]; simpa [wvs] using hown'⟩
      case measure => simp [intOf]; omega
    · obtain rfl : k = 6 := by omega
      have h6 : (sixW F).take 6 = sixW F := rfl
      rw [h6] at hown
      have HJ := Lib.hid (join_own HF.out hown)
      clear hown
      go_wp2_with fail
      refine HJ.out.mono ?_
      rintro e2 w2 ⟨rfl, hb2⟩
      go_wp2
      go_ret
      exact ⟨rfl, y.out.trans (hb2.mono y.out.size)⟩
end Go.Proofs.YtcaelmaoldmgpaaDoor
