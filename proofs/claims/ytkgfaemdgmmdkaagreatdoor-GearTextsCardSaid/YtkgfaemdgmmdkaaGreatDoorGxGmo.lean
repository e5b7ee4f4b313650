/- Most of the program. Ends of the program. -/
import Derived.Test.YtkgfaemdgmmdkaaGreatDoorGxGie
namespace Go.Proofs.YtkgfaemdgmmdkaaGreatDoor.Gx
open Go.Proofs.YtkgfaemdgmmdkaaGreatDoor
open Go.RowKit
attribute [local go_sem] After.cell After.frozen After.lt After.le After.ne After.ne' After.set_eq After.size_set After.lt_add tx_size tx_toList

section
variable (a : Option Addr) (n cap : Nat) (gm : Nat → List UInt8) (gl gd : Nat → Int) (gb : Nat → List UInt8) (al : Option Addr) (m capl : Nat) (lm : Nat → List UInt8) (lf : Nat → Int) (w : World) (hA : ItAt w a n gm gl gd gb) (hL : LkAt w al m lm lf) (hn : n ≤ 1000) (hm : m ≤ 1000) (hcap : m ≤ capl) (h1 : Sht n gm) (h2 : Sht n gb) (h3 : Sht m lm)
include hA hL hn hm hcap h1 h2 h3
end
end Go.Proofs.YtkgfaemdgmmdkaaGreatDoor.Gx
namespace Go.Proofs.YtkgfaemdgmmdkaaGreatDoor.Gx
open Go.Proofs.YtkgfaemdgmmdkaaGreatDoor
open Go.RowKit
attribute [local go_sem] After.cell After.frozen After.lt After.le After.ne After.ne' After.set_eq After.size_set After.lt_add tx_size tx_toList

theorem gat_of {W : World} {B : Nat} {v : Value} {n : Nat} {g : Nat → Int} (h : W.ownsRow B 3 1 v n (gxs g n)) : ∃ a cap, v = .slice a n cap ∧ GAt W a n g := by
  obtain ⟨a, cap, rfl⟩ := ownsR_shape h
  refine ⟨a, cap, rfl, fun i hi => ?_⟩
  obtain ⟨g', c, e⟩ := Go.Joins.ownsRow_form h (by omega)
  cases e
  refine ⟨g', 0, rfl, (h.lt g' rfl).2, ?_⟩
  rw [Nat.zero_add, h.cellAt _ (by omega)]
  exact gxs_get hi
/-- What Most answers, of a link that is one. -/
def moN (n : Nat) (gm lm : Nat → List UInt8) (gl : Nat → Int) (m : Nat) (lf : Nat → Int) (k : Nat) : Int := mnU (fun i => gl (ixO n gm lm i)) (gl (ixO n gm lm k)) (upL lf (m + 1) (k : Nat))
section
variable (a : Option Addr) (n cap : Nat) (gm : Nat → List UInt8) (gl gd : Nat → Int) (gb : Nat → List UInt8) (al : Option Addr) (m capl : Nat) (lm : Nat → List UInt8) (lf : Nat → Int) (w : World) (hA : ItAt w a n gm gl gd gb) (hL : LkAt w al m lm lf) (hn : n ≤ 1000) (hm : m ≤ 1000) (hcap : m ≤ capl) (h1 : Sht n gm) (h2 : Sht n gb) (h3 : Sht m lm)
include hA hL hn hm hcap h1 h2 h3
set_option maxRecDepth 100000 in
set_option maxHeartbeats 1000000 in
theorem most_ok (hb : (vgB n gm gl gd gb && vrB n m gm lm lf) = true) (k : Nat) (hk : k < m) (he : enB m lf k = true) : Calls Tryz.prog 14 #[.slice a n cap, .slice al m capl, .int .i64 (k : Nat)] w fun e w' => e = .returned (.tuple #[.int .i64 (moN n gm lm gl m lf k), .int .i64 0]) ∧ Below w.heap.size w w' := by
  have HO := Lib.hid (fun W (hW : Below w.heap.size w W) => open_any a n cap gm gl gd gb al m capl lm lf W (hA.on hW) (hL.on hW) hn hm hcap h1 h2 h3)
  have HV2 := Lib.hid (vr_lt (n := n) (m := m) (gm := gm) (lm := lm) (lf := lf) (by simp at hb; exact hb.2))
  have HE := Lib.hid (fun W (hW : Below w.heap.size w W) iv => isEnd_any al m capl iv lm lf k W (hL.on hW) hm HV2.out hk)
  have HLt := Lib.hid (fun W (hW : Below w.heap.size w W) iv a2 c2 g (hg : GAt W a2 m g) => least_any al m capl iv lm lf a2 c2 g k W (hL.on hW) hm HV2.out hk hg)
  have HLi := Lib.hid (fun a2 c2 W (hI : ItAt W a2 m (fun i => gm (ixO n gm lm i)) (fun i => gl (ixO n gm lm i)) (fun i => gd (ixO n gm lm i)) (fun i => gb (ixO n gm lm i))) => limits_any (.slice al m capl) a2 m c2 _ _ _ _ W hI hm)
  have hW := fun W => between_b (k : Nat) 0 ((m : Int) - 1) W (x := true) (decide_eq_true (by unfold Btw; omega))
  have hmI : (m : Int) ≤ 1000 := by omega
  have hwm : IntKind.i64.wrap ((m : Int) - 1) = (m : Int) - 1 := by rw [IntKind.wrap_i64]; omega
  rw [hb] at HO
  rw [he] at HE
  clear hA hL h1 h2 h3 hn hm hcap hb he
  go_enter Tryz.func14, Tryz.ntmps14
  go_wp2_with fail
  refine (HO.out _ (Below.refl _ _)).mono ?_
  rintro e w2 ⟨⟨a2, c2, rfl, hI⟩, hb2⟩
  have HB2 := Lib.hid (hb2.alloc hb2.size (.cells #[.slice al m capl, .slice a2 m c2] 68))
  have HI := Lib.hid (hI.on ((Below.refl _ w2).alloc (Nat.le_refl _) (.cells #[.slice al m capl, .slice a2 m c2] 68)))
  clear hb2 hI HO
  go_wp2_with (first | (go_at_call 30; refine (hW _).mono ?_; rintro e w' ⟨rfl, rfl⟩) | (go_at_call 31; refine calls_after (HE.out _ HB2.out _) ?_; intro x1))
  have hlt : w2.heap.size < x1.w.heap.size := by have := x1.out.size; simp at this; omega
  have b0 : x1.w.cell? ⟨w2.heap.size, 0, none⟩ = some (.slice al m capl) := (x1.cell _ (by simp)).trans (by simp [go_sem])
  have b1 : x1.w.cell? ⟨w2.heap.size, 1, none⟩ = some (.slice a2 m c2) := (x1.cell _ (by simp)).trans (by simp [go_sem])
  have HI2 := Lib.hid (HI.out.on x1.out)
  have HB4 := Lib.hid (HB2.out.trans (x1.out.mono HB2.out.size))
  have HCell := Lib.hid (And.intro hlt (And.intro b0 b1))
  clear HI HB2 HE
  generalize x1.w = X at *
  have HId := Lib.hid (HI2.out.on (below_drawn X))
  have HBd := Lib.hid (HB4.out.drew)
  go_region_with (first | (go_at_call 33; go_loud (refine (HLi.out a2 c2 X.drew HId.out).mono ?_; rintro e w3 ⟨v, rfl, hO, hb3⟩; obtain ⟨a3, c3, rfl, hg⟩ := gat_of hO; have d0 : w3.cell? ⟨w2.heap.size, 0, none⟩ = some (.slice al m capl) := (hb3.cell (p := ⟨w2.heap.size, 0, none⟩) HCell.out.1).trans HCell.out.2.1; have d1 : w3.cell? ⟨w2.heap.size, 1, none⟩ = some (.slice a2 m c2) := (hb3.cell (p := ⟨w2.heap.size, 1, none⟩) HCell.out.1).trans HCell.out.2.2; have HG := Lib.hid hg; have HB5 := Lib.hid (HBd.out.trans (hb3.mono HBd.out.size)); clear hO hb3 hg)) | (go_at_call 32; refine (HLt.out _ HB5.out _ _ _ _ HG.out).mono ?_; rintro e w4 ⟨rfl, hb4⟩; have HB6 := Lib.hid (HB5.out.trans (hb4.mono HB5.out.size)); clear hb4))
  all_goals
    go_wp2
    go_returns
    exact ⟨rfl, HB6.out⟩
end
end Go.Proofs.YtkgfaemdgmmdkaaGreatDoor.Gx
