/- The reference's Format of good uses. -/
import Derived.Test.YtccjfmhbmieigaaDoorTwow
import Derived.Deep.RegionHeld3
namespace Go.Proofs.YtccjfmhbmieigaaDoor
open Go.RowKit Ro
attribute [local go_sem] After.cell After.frozen After.lt After.le After.ne After.ne' After.set_eq After.size_set After.lt_add tx_size tx_toList

theorem listL_two (d l : Int) : (listL [d, l]).drop 1 = useL (d, l) := by simp [listL, useL, joinW]
theorem listL_two_len {d l : Int} (hd : I64 d) (hl : I64 l) : 1 ≤ (listL [d, l]).length ∧ (listL [d, l]).length ≤ 42 := by
  have h1 := use_len (p := (d, l)) hd hl
  rw [← listL_two, List.length_drop] at h1
  have : 1 ≤ (listL [d, l]).length := by simp [listL]
  omega
theorem listed_two (d l : Int) (V : World) (hd : I64 d) (hl : I64 l) :
    Calls Tryd.prog 29 #[.slice (some ⟨V.heap.size, 0, none⟩) 2 2] (V.alloc (.cells #[.int .i64 d, .int .i64 l] 3)).drew fun x w' => x = .returned (.string (tx (listL [d, l]))) ∧ Below V.heap.size V w' := by
  obtain ⟨X, hX⟩ : ∃ X, (V.alloc (.cells #[.int .i64 d, .int .i64 l] 3)).drew = X := ⟨_, rfl⟩
  have hB : Below V.heap.size V X := by rw [← hX]; (repeat' (first | (with_reducible exact Below.refl _ _) | (with_reducible assumption) | (with_reducible refine Below.alloc ?_ ?_ _) | (with_reducible refine Below.drew ?_) | (with_reducible refine below_drewN ?_ _) | (with_reducible refine Below.setCell ?_ ?_ _) | (with_reducible refine below_after ?_ ?_ _) | (with_reducible refine below_set ?_) | (with_reducible refine After.size_le _ ?_) | (with_reducible refine size_alloc_le ?_) | (with_reducible refine size_set_le ?_) | (with_reducible refine size_drewN_le ?_) | go_size))
  have hs : X.heap.size = V.heap.size + 1 := by rw [← hX]; simp
  have c0 : X.cell? ⟨V.heap.size, 0, none⟩ = some (.int .i64 d) := by rw [← hX]; simp [go_sem]
  have c1 : X.cell? ⟨V.heap.size, 1, none⟩ = some (.int .i64 l) := by rw [← hX]; simp [go_sem]
  rw [hX]
  clear hX
  refine (listed_any V.heap.size 0 2 [d, l] X (by omega) (by simp) (fun n hn => ?_) ?_).mono ?_
  · simp only [List.mem_cons, List.not_mem_nil, or_false] at hn
    rcases hn with rfl | rfl
    · exact hd
    · exact hl
  · intro i x hx
    have hi : i < 2 := (List.getElem?_eq_some_iff.1 hx).1
    rcases (show i = 0 ∨ i = 1 by omega) with rfl | rfl
    · simp at hx; subst hx; simpa using c0
    · simp at hx; subst hx; simpa using c1
  · rintro e' w' ⟨rfl, h⟩
    exact ⟨rfl, hB.trans (h.mono hB.size)⟩

set_option maxRecDepth 100000 in
set_option maxHeartbeats 2000000 in
theorem rformatU_ok (v : Value) (ps : List (Int × Int)) (w : World) (hc : Prc w w.heap.size v ps) (hG : GoodU ps) :
    Calls Tryd.prog 16 #[v] w fun e w' => e = .returned (.string (tx (formU ps))) ∧ Below w.heap.size w w' := by
  have HV := Lib.hid (fun W (hW : Below w.heap.size w W) => rvalidUses_v v ps W (prc_on hc hW) (by have := hG.1; omega) true (decide_eq_true hG))
  obtain ⟨a, cap, hv⟩ := prc_slice hc
  have HC : Hid (∀ k, k < ps.length → ∃ b off, a = some ⟨b, off, none⟩ ∧ b < w.heap.size ∧ ∀ W, Below w.heap.size w W → W.cell? ⟨b, off + k * 2, none⟩ = some (.int .i64 (ps.getD k (0, 0)).1) ∧ W.cell? ⟨b, off + k * 2 + 1, none⟩ = some (.int .i64 (ps.getD k (0, 0)).2)) := Lib.hid fun k hk => by
    rcases hc with ⟨_, rfl⟩ | ⟨_, _, _, _, rfl⟩ | ⟨b, off, cap', e, h0, h1, h2, hb, hcl⟩
    · simp at hk
    · simp at hk
    · rw [hv] at e
      cases e
      exact ⟨b, off, rfl, hb, fun W hW => prCells_on hb hcl hW k hk⟩
  have HI : Hid (∀ k, k < ps.length → I2 (ps.getD k (0, 0))) := Lib.hid fun k hk => (goodU_in2 hG (get_usAt ps hk)).i2
  have hn5 := hG.1
  subst hv
  clear hc hG
  go_enter Tryd.func16, Tryd.ntmps16
  go_wp2_with fail
  refine (HV.out _ (by (repeat' (first | (with_reducible exact Below.refl _ _) | (with_reducible assumption) | (with_reducible refine Below.alloc ?_ ?_ _) | (with_reducible refine Below.drew ?_) | (with_reducible refine below_drewN ?_ _) | (with_reducible refine Below.setCell ?_ ?_ _) | (with_reducible refine below_after ?_ ?_ _) | (with_reducible refine below_set ?_) | (with_reducible refine After.size_le _ ?_) | (with_reducible refine size_alloc_le ?_) | (with_reducible refine size_set_le ?_) | (with_reducible refine size_drewN_le ?_) | go_size)))).mono ?_
  rintro e0 w1 ⟨rfl, hb1⟩
  obtain ⟨x1, rfl⟩ := after_of' hb1
  clear hb1
  go_wp2
  go_loopw [3, 4] (fun s i wr => ∃ k : Nat, k ≤ ps.length ∧ i = .int .i64 k ∧ s = .string (tx (formU (ps.take k))) ∧ (formU (ps.take k)).length ≤ k * 42 ∧ ∃ x : After w, wr = x.w) (fun _ i _ => ps.length - (intOf i).toNat)
  case atStart => exact ⟨0, by omega, rfl, rfl, by simp [formU], x1, rfl⟩
  case round =>
    obtain ⟨k, hk, rfl, rfl, hlen, x, rfl⟩ := hrel
    by_cases hlt : k < ps.length
    · obtain ⟨b, off, rfl, hb, hcl⟩ := HC.out k hlt
      have hbx := x.size_lt hb
      obtain ⟨c0, c1⟩ := hcl x.w x.out
      have hM := HI.out k hlt
      have hS := formU_next ps hlt
      clear hcl
      generalize ps.getD k (0, 0) = p at *
      obtain ⟨d, l⟩ := p
      simp only at c0 c1
      obtain ⟨q1, q2⟩ := listL_two_len hM.1 hM.2
      have HL := Lib.hid (listed_two d l x.w hM.1 hM.2)
      have hE := listL_two d l
      have hrl := use_len (p := (d, l)) hM.1 hM.2
      have HS : Hid ((formU (ps.take k) ++ useL (d, l)) ++ [10] = formU (ps.take (k + 1))) := Lib.hid (by rw [hS]; simp)
      have hkn : (k : Int) < (ps.length : Int) := by omega
      have hfrom : ∀ w : World, (Instr.slice 9 (.string (tx (listL [d, l]))) (some (.int .i64 1)) none none).run Tryd.prog w = .ok (.string (tx (useL (d, l)))) w := fun w => by
        rw [← hE]
        exact run_tx_from (P := Tryd.prog) w Tryd.underlying9 _ 1 q1
      clear hS hE hM
      generalize useL (d, l) = E at *
      generalize formU (ps.take k) = S at *
      generalize listL [d, l] = D at *
      have e0 : (⟨#[10]⟩ : ByteArray) = tx [10] := rfl
      have hT : ((S ++ E) ++ [10]).length ≤ (k + 1) * 42 := by simp; omega
      have hadd1 : ∀ w : World, (Op.stringOp .add (tx S) (tx E)).run Tryd.prog w = .ok (.string (tx (S ++ E))) w := fun w => run_tx_add w S E (by omega) (by omega)
      have hadd2 : ∀ w : World, (Op.stringOp .add (tx (S ++ E)) (tx [10])).run Tryd.prog w = .ok (.string (tx ((S ++ E) ++ [10]))) w := fun w => run_tx_add w (S ++ E) [10] (by simp; omega) (by simp)
      go_wp2
      go_region_held3 (fun w' => w'.cell? ⟨b, off + k * 2, none⟩ = some (.int .i64 d) ∧ w'.cell? ⟨b, off + k * 2 + 1, none⟩ = some (.int .i64 l))
        (first | (exact ⟨(hb5.cell (p := ⟨b, off + k * 2, none⟩) hbx).trans c0, (hb5.cell (p := ⟨b, off + k * 2 + 1, none⟩) hbx).trans c1⟩) | go_keep)
        ((go_at_call 29; refine HL.out.mono ?_; rintro e w5 ⟨rfl, hb5⟩))
      all_goals
        go_wp2
        go_roundw
      case rel => exact ⟨k + 1, by omega, by go_num, by rw [← HS.out]; simp, by rw [← HS.out]; exact hT, ⟨_, x.out.trans (hb5.mono x.out.size)⟩, rfl⟩
      case measure => simp [intOf]; omega
    · obtain rfl : k = ps.length := by omega
      have hF : formU (ps.take ps.length) = formU ps := by rw [List.take_length]
      rw [hF]
      go_wp2
      go_ret
      exact ⟨rfl, by (repeat' (first | (with_reducible exact Below.refl _ _) | (with_reducible assumption) | (with_reducible refine Below.alloc ?_ ?_ _) | (with_reducible refine Below.drew ?_) | (with_reducible refine below_drewN ?_ _) | (with_reducible refine Below.setCell ?_ ?_ _) | (with_reducible refine below_after ?_ ?_ _) | (with_reducible refine below_set ?_) | (with_reducible refine After.size_le _ ?_) | (with_reducible refine size_alloc_le ?_) | (with_reducible refine size_set_le ?_) | (with_reducible refine size_drewN_le ?_) | go_size))⟩
end Go.Proofs.YtccjfmhbmieigaaDoor
