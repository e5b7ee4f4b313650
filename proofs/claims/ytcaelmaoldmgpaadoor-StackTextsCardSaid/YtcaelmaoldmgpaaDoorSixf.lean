/- Format of a stack in both programs. -/
import Derived.Test.YtcaelmaoldmgpaaDoorSixw
import Derived.Test.YtcaelmaoldmgpaaDoorSixp
namespace Go.Proofs.YtcaelmaoldmgpaaDoor
open Go.RowKit Cr
attribute [local go_sem] After.cell After.frozen After.lt After.le After.ne After.ne' After.set_eq After.size_set After.lt_add tx_size tx_toList

set_option maxRecDepth 100000 in
set_option maxHeartbeats 1000000 in
theorem formatC_bad (a : Option Addr) (n cap : Nat) (w : World) (hv : CSay w (.slice a n cap) false) :
    Calls Tryd.prog 9 #[.slice a n cap] w fun e w' => e = .returned (.string (tx [])) ∧ Below w.heap.size w w' := by
  have HV : Hid (∀ W, Below w.heap.size w W → _) := hv
  have e0 : (⟨#[]⟩ : ByteArray) = tx [] := rfl
  clear hv
  go_enter Tryd.func9, Tryd.ntmps9
  go_wp2_with fail
  refine (HV.out _ (by (repeat' (first | (with_reducible exact Below.refl _ _) | (with_reducible assumption) | (with_reducible refine Below.alloc ?_ ?_ _) | (with_reducible refine Below.drew ?_) | (with_reducible refine below_drewN ?_ _) | (with_reducible refine Below.setCell ?_ ?_ _) | (with_reducible refine below_after ?_ ?_ _) | (with_reducible refine below_set ?_) | (with_reducible refine After.size_le _ ?_) | (with_reducible refine size_alloc_le ?_) | (with_reducible refine size_set_le ?_) | (with_reducible refine size_drewN_le ?_) | go_size)))).mono ?_
  rintro e0 w1 ⟨rfl, hb1⟩
  go_wp2
  go_ret
  exact ⟨rfl, by (repeat' (first | (with_reducible exact Below.refl _ _) | (with_reducible assumption) | (with_reducible refine Below.alloc ?_ ?_ _) | (with_reducible refine Below.drew ?_) | (with_reducible refine below_drewN ?_ _) | (with_reducible refine Below.setCell ?_ ?_ _) | (with_reducible refine below_after ?_ ?_ _) | (with_reducible refine below_set ?_) | (with_reducible refine After.size_le _ ?_) | (with_reducible refine size_alloc_le ?_) | (with_reducible refine size_set_le ?_) | (with_reducible refine size_drewN_le ?_) | go_size))⟩
set_option maxRecDepth 100000 in
set_option maxHeartbeats 1000000 in
theorem rformatC_bad (a : Option Addr) (n cap : Nat) (w : World) (hv : RCSay w (.slice a n cap) false) :
    Calls Tryd.prog 10 #[.slice a n cap] w fun e w' => e = .returned (.string (tx [])) ∧ Below w.heap.size w w' := by
  have HV : Hid (∀ W, Below w.heap.size w W → _) := hv
  have e0 : (⟨#[]⟩ : ByteArray) = tx [] := rfl
  clear hv
  go_enter Tryd.func10, Tryd.ntmps10
  go_wp2_with fail
  refine (HV.out _ (by (repeat' (first | (with_reducible exact Below.refl _ _) | (with_reducible assumption) | (with_reducible refine Below.alloc ?_ ?_ _) | (with_reducible refine Below.drew ?_) | (with_reducible refine below_drewN ?_ _) | (with_reducible refine Below.setCell ?_ ?_ _) | (with_reducible refine below_after ?_ ?_ _) | (with_reducible refine below_set ?_) | (with_reducible refine After.size_le _ ?_) | (with_reducible refine size_alloc_le ?_) | (with_reducible refine size_set_le ?_) | (with_reducible refine size_drewN_le ?_) | go_size)))).mono ?_
  rintro e0 w1 ⟨rfl, hb1⟩
  go_wp2
  go_ret
  exact ⟨rfl, by (repeat' (first | (with_reducible exact Below.refl _ _) | (with_reducible assumption) | (with_reducible refine Below.alloc ?_ ?_ _) | (with_reducible refine Below.drew ?_) | (with_reducible refine below_drewN ?_ _) | (with_reducible refine Below.setCell ?_ ?_ _) | (with_reducible refine below_after ?_ ?_ _) | (with_reducible refine below_set ?_) | (with_reducible refine After.size_le _ ?_) | (with_reducible refine size_alloc_le ?_) | (with_reducible refine size_set_le ?_) | (with_reducible refine size_drewN_le ?_) | go_size))⟩
theorem goodC_good {n : Nat} {f : Nat → Nat → Int} : GoodC n f ↔ GoodS n f := Iff.rfl

set_option maxRecDepth 1000000 in
set_option maxHeartbeats 2000000 in
theorem formatC_ok (b off cap n : Nat) (f : Nat → Nat → Int) (w : World) (hb : b < w.heap.size) (hc : CrCells w b off n f) (hG : GoodS n f) (hv : CSay w (.slice (some ⟨b, off, none⟩) n cap) true) (hS : Std w) :
    Calls Tryd.prog 9 #[.slice (some ⟨b, off, none⟩) n cap] w fun e w' => e = .returned (.string (tx (formC n f))) ∧ Below w.heap.size w w' := by
  have HV : Hid (∀ W, Below w.heap.size w W → _) := hv
  have HC := Lib.hid (fun W (hW : Below w.heap.size w W) => hc.on hb hW)
  have HG := Lib.hid hG
  have HS := Lib.hid (fun W (hW : Below w.heap.size w W) => hS.on hW)
  have hn40 := hG.2.1
  have e10 : (⟨#[10]⟩ : ByteArray) = tx [10] := rfl
  clear hv hc hG hS
  go_enter Tryd.func9, Tryd.ntmps9
  go_wp2_with fail
  refine (HV.out _ (by (repeat' (first | (with_reducible exact Below.refl _ _) | (with_reducible assumption) | (with_reducible refine Below.alloc ?_ ?_ _) | (with_reducible refine Below.drew ?_) | (with_reducible refine below_drewN ?_ _) | (with_reducible refine Below.setCell ?_ ?_ _) | (with_reducible refine below_after ?_ ?_ _) | (with_reducible refine below_set ?_) | (with_reducible refine After.size_le _ ?_) | (with_reducible refine size_alloc_le ?_) | (with_reducible refine size_set_le ?_) | (with_reducible refine size_drewN_le ?_) | go_size)))).mono ?_
  rintro e0 w1 ⟨rfl, hb1⟩
  obtain ⟨x1, rfl⟩ := after_of' hb1
  clear hb1
  go_wp2
  go_loopw [11] (fun i wr => ∃ k : Nat, k ≤ n ∧ i = .int .i64 k ∧ ∃ x : After w, wr = x.w ∧ Hid (Bld w.heap.size x1.w.heap.size (formC k f) x.w ∧ (formC k f).length ≤ k * 126)) (fun i _ => n - (intOf i).toNat)
  case atStart =>
    refine ⟨0, by omega, rfl, ⟨_, (Below.alloc x1.out x1.out.size _)⟩, rfl, Lib.hid ⟨?_, by simp [formC]⟩⟩
    exact .inl ⟨x1.out.size, .slice none 0 0, heap_alloc_new x1.w _, World.ownsRow_nil _ _ _ _, by simp [Value.ownBlock]⟩
  case round =>
    obtain ⟨k, hk, rfl, x, rfl, HB⟩ := hrel
    have hbx := x.size_lt hb
    by_cases hlt : k < n
    · obtain ⟨c0, c1, c2, c3, c4, c5⟩ := HC.out x.w x.out k hlt
      have hM := (HG.out.2.2 k hlt).i6
      have HT := Lib.hid (formC_succ k f)
      have hrl := row_len64 hM
      have hkn : (k : Int) < (n : Int) := by omega
      have J0 := Lib.hid (fun (V : World) (hV : Below w.heap.size w V) => writeCourse_any (f k) V hM (HS.out V hV))
      clear hM
      generalize rowL (f k) = R at *
      generalize f k 0 = h0 at *
      generalize f k 1 = h1 at *
      generalize f k 2 = h2 at *
      generalize f k 3 = h3 at *
      generalize f k 4 = h4 at *
      generalize f k 5 = h5 at *
      have a1 : ∀ w : World, (Op.stringOp .add (tx R) (tx [10])).run Tryd.prog w = .ok (.string (tx (R ++ [10]))) w := fun w => run_tx_add w _ _ (by omega) (by simp)
      have hlen : (R ++ [10]).length ≤ 126 := by simp; omega
      generalize R ++ [10] = u1 at *
      go_wp2_with fail
      refine (J0.out _ (by (repeat' (first | (with_reducible exact Below.refl _ _) | (with_reducible assumption) | (with_reducible refine Below.alloc ?_ ?_ _) | (with_reducible refine Below.drew ?_) | (with_reducible refine below_drewN ?_ _) | (with_reducible refine Below.setCell ?_ ?_ _) | (with_reducible refine below_after ?_ ?_ _) | (with_reducible refine below_set ?_) | (with_reducible refine After.size_le _ ?_) | (with_reducible refine size_alloc_le ?_) | (with_reducible refine size_set_le ?_) | (with_reducible refine size_drewN_le ?_) | go_size)))).mono ?_
      rintro e1 w1 ⟨rfl, hb1⟩
      have hBy : Below x.w.heap.size x.w w1 := Below.trans (by (repeat' (first | (with_reducible exact Nat.le_refl _) | (with_reducible exact Below.refl _ _) | (with_reducible assumption) | (with_reducible refine Below.alloc ?_ ?_ _) | (with_reducible refine Below.drew ?_) | (with_reducible refine below_drewN ?_ _) | (with_reducible refine Below.setCell ?_ ?_ _) | (with_reducible refine below_after ?_ ?_ _) | (with_reducible refine below_set ?_) | (with_reducible refine After.size_le _ ?_) | (with_reducible refine size_alloc_le ?_) | (with_reducible refine size_set_le ?_) | (with_reducible refine size_drewN_le ?_) | go_size))) (hb1.mono (by simp))
      have HB' := Lib.hid (HB.out.1.on hBy)
      obtain ⟨y, rfl⟩ := after_of' (x.out.trans (hBy.mono x.out.size))
      clear hb1 hBy
      go_wp2_with fail
      refine (write_any u1 HB'.out (by have := HB.out.2; omega) y.out.size).mono ?_
      rintro e5 w5 ⟨rfl, hB5, hb5⟩
      have hB6 : Hid (Bld w.heap.size x1.w.heap.size (formC (k + 1) f) w5 ∧ (formC (k + 1) f).length ≤ (k + 1) * 126) := Lib.hid (by
        have h1 := HT.out
        have h2 := HB.out.2
        rw [h1]
        exact ⟨hB5, by simp only [List.length_append]; omega⟩)
      have hx5 : Below w.heap.size w w5 := y.out.trans hb5
      obtain ⟨x5, rfl⟩ := after_of' hx5
      clear hx5 hb5 hB5
      go_wp2
      go_roundw
      case rel => exact ⟨k + 1, by omega, by go_num, x5, rfl, hB6⟩
      case measure => simp [intOf]; omega
    · obtain rfl : n = k := by omega
      go_wp2_with (go_at_call 28; refine (string_any HB.out.1 x.out.size).mono ?_; rintro e w5 ⟨rfl, hb5⟩)
      go_ret
      exact ⟨rfl, x.out.trans hb5⟩

/-! ### The reference -/
theorem listL_six (F : Nat → Int) : (listL [F 0, F 1, F 2, F 3, F 4, F 5]).drop 1 = rowL F := by simp [listL, rowL, sixW, joinW]
theorem listL_six_len {F : Nat → Int} (h : I6 F) : 1 ≤ (listL [F 0, F 1, F 2, F 3, F 4, F 5]).length ∧ (listL [F 0, F 1, F 2, F 3, F 4, F 5]).length ≤ 126 := by
  have h1 := row_len64 h
  rw [← listL_six, List.length_drop] at h1
  have : 1 ≤ (listL [F 0, F 1, F 2, F 3, F 4, F 5]).length := by simp [listL]
  omega
theorem listed_six (F : Nat → Int) (V : World) (B : Nat) (hVB : V.heap.size = B) (hF : I6 F) :
    Calls Tryd.prog 29 #[.slice (some ⟨B, 0, none⟩) 6 6] (V.alloc (.cells #[.int .i64 (F 0), .int .i64 (F 1), .int .i64 (F 2), .int .i64 (F 3), .int .i64 (F 4), .int .i64 (F 5)] 3)) fun x w' => x = .returned (.string (tx (listL [F 0, F 1, F 2, F 3, F 4, F 5]))) ∧ Below V.heap.size V w' := by
  subst hVB
  obtain ⟨X, hX⟩ : ∃ X, (V.alloc (.cells #[.int .i64 (F 0), .int .i64 (F 1), .int .i64 (F 2), .int .i64 (F 3), .int .i64 (F 4), .int .i64 (F 5)] 3)) = X := ⟨_, rfl⟩
  have hB : Below V.heap.size V X := by rw [← hX]; (repeat' (first | (with_reducible exact Below.refl _ _) | (with_reducible assumption) | (with_reducible refine Below.alloc ?_ ?_ _) | (with_reducible refine Below.drew ?_) | (with_reducible refine below_drewN ?_ _) | (with_reducible refine Below.setCell ?_ ?_ _) | (with_reducible refine below_after ?_ ?_ _) | (with_reducible refine below_set ?_) | (with_reducible refine After.size_le _ ?_) | (with_reducible refine size_alloc_le ?_) | (with_reducible refine size_set_le ?_) | (with_reducible refine size_drewN_le ?_) | go_size))
  have hs : X.heap.size = V.heap.size + 1 := by rw [← hX]; simp
  have c : ∀ j, j < 6 → X.cell? ⟨V.heap.size, j, none⟩ = some (.int .i64 (F j)) := fun j hj => by
    rcases (show j = 0 ∨ j = 1 ∨ j = 2 ∨ j = 3 ∨ j = 4 ∨ j = 5 by omega) with rfl | rfl | rfl | rfl | rfl | rfl <;> (rw [← hX]; simp [go_sem])
  rw [hX]
  clear hX
  refine (listed_any V.heap.size 0 6 [F 0, F 1, F 2, F 3, F 4, F 5] X (by omega) (by simp) (fun n hn => ?_) ?_).mono ?_
  · simp only [List.mem_cons, List.not_mem_nil, or_false] at hn
    rcases hn with rfl | rfl | rfl | rfl | rfl | rfl
    · exact hF 0 (by omega)
    · exact hF 1 (by omega)
    · exact hF 2 (by omega)
    · exact hF 3 (by omega)
    · exact hF 4 (by omega)
    · exact hF 5 (by omega)
  · intro i x hx
    have hi : i < 6 := (List.getElem?_eq_some_iff.1 hx).1
    rw [Nat.zero_add, c i hi]
    rcases (show i = 0 ∨ i = 1 ∨ i = 2 ∨ i = 3 ∨ i = 4 ∨ i = 5 by omega) with rfl | rfl | rfl | rfl | rfl | rfl <;> (simp at hx; rw [hx])
  · rintro e' w' ⟨rfl, h⟩
    exact ⟨rfl, hB.trans (h.mono hB.size)⟩
set_option maxRecDepth 100000 in
set_option maxHeartbeats 2000000 in
theorem rformatC_ok (b off cap n : Nat) (f : Nat → Nat → Int) (w : World) (hb : b < w.heap.size) (hc : CrCells w b off n f) (hG : GoodS n f) (hv : RCSay w (.slice (some ⟨b, off, none⟩) n cap) true) :
    Calls Tryd.prog 10 #[.slice (some ⟨b, off, none⟩) n cap] w fun e w' => e = .returned (.string (tx (formC n f))) ∧ Below w.heap.size w w' := by
  have HV : Hid (∀ W, Below w.heap.size w W → _) := hv
  have HC := Lib.hid (fun W (hW : Below w.heap.size w W) => hc.on hb hW)
  have HG := Lib.hid hG
  have hn40 := hG.2.1
  have e10 : (⟨#[10]⟩ : ByteArray) = tx [10] := rfl
  clear hv hc hG
  go_enter Tryd.func10, Tryd.ntmps10
  go_wp2_with fail
  refine (HV.out _ (by (repeat' (first | (with_reducible exact Below.refl _ _) | (with_reducible assumption) | (with_reducible refine Below.alloc ?_ ?_ _) | (with_reducible refine Below.drew ?_) | (with_reducible refine below_drewN ?_ _) | (with_reducible refine Below.setCell ?_ ?_ _) | (with_reducible refine below_after ?_ ?_ _) | (with_reducible refine below_set ?_) | (with_reducible refine After.size_le _ ?_) | (with_reducible refine size_alloc_le ?_) | (with_reducible refine size_set_le ?_) | (with_reducible refine size_drewN_le ?_) | go_size)))).mono ?_
  rintro e0 w1 ⟨rfl, hb1⟩
  obtain ⟨x1, rfl⟩ := after_of' hb1
  clear hb1
  go_wp2
  go_loopw [3, 4] (fun s i wr => ∃ k : Nat, k ≤ n ∧ i = .int .i64 k ∧ s = .string (tx (formC k f)) ∧ (formC k f).length ≤ k * 126 ∧ ∃ x : After w, wr = x.w) (fun _ i _ => n - (intOf i).toNat)
  case atStart => exact ⟨0, by omega, rfl, rfl, by simp [formC], x1, rfl⟩
  case round =>
    obtain ⟨k, hk, rfl, rfl, hlen, x, rfl⟩ := hrel
    have hbx := x.size_lt hb
    by_cases hlt : k < n
    · obtain ⟨c0, c1, c2, c3, c4, c5⟩ := HC.out x.w x.out k hlt
      have hM := (HG.out.2.2 k hlt).i6
      obtain ⟨q1, q2⟩ := listL_six_len hM
      have HL := Lib.hid (fun V B hB => listed_six (f k) V B hB hM)
      have HS : Hid ((formC k f ++ rowL (f k)) ++ [10] = formC (k + 1) f) := Lib.hid (by rw [formC_succ]; simp)
      have hE := listL_six (f k)
      have hkn : (k : Int) < (n : Int) := by omega
      have hfrom : ∀ w : World, (Instr.slice 9 (.string (tx (listL [f k 0, f k 1, f k 2, f k 3, f k 4, f k 5]))) (some (.int .i64 1)) none none).run Tryd.prog w = .ok (.string (tx (rowL (f k)))) w := fun w => by
        rw [← hE]
        exact run_tx_from (P := Tryd.prog) w Tryd.underlying9 _ 1 q1
      have hrl := row_len64 hM
      clear hE hM
      generalize rowL (f k) = E at *
      generalize f k 0 = h0 at *
      generalize f k 1 = h1 at *
      generalize f k 2 = h2 at *
      generalize f k 3 = h3 at *
      generalize f k 4 = h4 at *
      generalize f k 5 = h5 at *
      generalize formC k f = S at *
      generalize listL [h0, h1, h2, h3, h4, h5] = D at *
      have hT : ((S ++ E) ++ [10]).length ≤ (k + 1) * 126 := by simp; omega
      have hadd1 : ∀ w : World, (Op.stringOp .add (tx S) (tx E)).run Tryd.prog w = .ok (.string (tx (S ++ E))) w := fun w => run_tx_add w S E (by omega) (by omega)
      have hadd2 : ∀ w : World, (Op.stringOp .add (tx (S ++ E)) (tx [10])).run Tryd.prog w = .ok (.string (tx ((S ++ E) ++ [10]))) w := fun w => run_tx_add w (S ++ E) [10] (by simp; omega) (by simp)
      go_wp2_with fail
      refine (HL.out (x.w.alloc (.cells #[.int .i64 h0, .int .i64 h1, .int .i64 h2, .int .i64 h3, .int .i64 h4, .int .i64 h5] 38)) (x.w.heap.size + 1) (by simp)).mono ?_
      rintro e w5 ⟨rfl, hb5⟩
      have hx5 : Below w.heap.size w w5 := Below.trans (by (repeat' (first | (with_reducible exact Below.refl _ _) | (with_reducible assumption) | (with_reducible refine Below.alloc ?_ ?_ _) | (with_reducible refine Below.drew ?_) | (with_reducible refine below_drewN ?_ _) | (with_reducible refine Below.setCell ?_ ?_ _) | (with_reducible refine below_after ?_ ?_ _) | (with_reducible refine below_set ?_) | (with_reducible refine After.size_le _ ?_) | (with_reducible refine size_alloc_le ?_) | (with_reducible refine size_set_le ?_) | (with_reducible refine size_drewN_le ?_) | go_size))) (hb5.mono (by (repeat' (first | (with_reducible exact Below.refl _ _) | (with_reducible assumption) | (with_reducible refine Below.alloc ?_ ?_ _) | (with_reducible refine Below.drew ?_) | (with_reducible refine below_drewN ?_ _) | (with_reducible refine Below.setCell ?_ ?_ _) | (with_reducible refine below_after ?_ ?_ _) | (with_reducible refine below_set ?_) | (with_reducible refine After.size_le _ ?_) | (with_reducible refine size_alloc_le ?_) | (with_reducible refine size_set_le ?_) | (with_reducible refine size_drewN_le ?_) | go_size))))
      obtain ⟨x5, rfl⟩ := after_of' hx5
      clear hb5 hx5
      go_wp2
      go_roundw
      case rel => exact ⟨k + 1, by omega, by go_num, by rw [← HS.out]; simp, by rw [← HS.out]; exact hT, x5, rfl⟩
      case measure => simp [intOf]; omega
    · obtain rfl : k = n := by omega
      go_wp2
      go_ret
      exact ⟨rfl, by (repeat' (first | (with_reducible exact Below.refl _ _) | (with_reducible assumption) | (with_reducible refine Below.alloc ?_ ?_ _) | (with_reducible refine Below.drew ?_) | (with_reducible refine below_drewN ?_ _) | (with_reducible refine Below.setCell ?_ ?_ _) | (with_reducible refine below_after ?_ ?_ _) | (with_reducible refine below_set ?_) | (with_reducible refine After.size_le _ ?_) | (with_reducible refine size_alloc_le ?_) | (with_reducible refine size_set_le ?_) | (with_reducible refine size_drewN_le ?_) | go_size))⟩
end Go.Proofs.YtcaelmaoldmgpaaDoor
