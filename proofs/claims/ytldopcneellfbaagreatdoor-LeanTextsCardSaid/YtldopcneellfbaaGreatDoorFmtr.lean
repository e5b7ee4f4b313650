/- The reference's Format. -/
import Derived.Test.YtldopcneellfbaaGreatDoorNumbs
import Derived.Test.YtldopcneellfbaaGreatDoorMkt
import Derived.Deep.RegionHeld3
import Derived.Test.YtldopcneellfbaaGreatDoorWordsr
namespace Go.Proofs.YtldopcneellfbaaGreatDoor
open Go.RowKit
attribute [local go_sem] After.cell After.frozen After.lt After.le After.ne After.ne' After.set_eq After.size_set After.lt_add tx_size tx_toList

/-- The line of a mark, its line feed with it; the text of a survey. -/
def lineL (h e n : Int) : List UInt8 := Lib.itoa h ++ (32 :: (Lib.itoa e ++ (32 :: (Lib.itoa n ++ [10]))))
def formL (n : Nat) (f : Nat → Nat → Int) : List UInt8 := (List.range n).flatMap fun i => lineL (f i 0) (f i 1) (f i 2)
theorem formL_succ (k : Nat) (f : Nat → Nat → Int) : formL (k + 1) f = formL k f ++ lineL (f k 0) (f k 1) (f k 2) := by simp [formL, List.range_succ]
theorem listL_three (h e n : Int) : (listL [h, e, n]).drop 1 ++ [10] = lineL h e n := by simp [listL, lineL]
theorem listL_len (h e n : Int) (hi : InMk h e n) : 1 ≤ (listL [h, e, n]).length ∧ (listL [h, e, n]).length ≤ 63 := by
  unfold InMk at hi
  have a := itoa_len (n := h) (by omega) (by omega)
  have b := itoa_len (n := e) (by omega) (by omega)
  have c := itoa_len (n := n) (by omega) (by omega)
  simp [listL]
  omega
theorem listed_three (h e n : Int) (V : World) (hi : InMk h e n) :
    Calls Tryz.prog 21 #[.slice (some ⟨V.heap.size, 0, none⟩) 3 3] (V.alloc (.cells #[.int .i64 h, .int .i64 e, .int .i64 n] 3)).drew fun x w' => x = .returned (.string (tx (listL [h, e, n]))) ∧ Below V.heap.size V w' := by
  obtain ⟨X, hX⟩ : ∃ X, (V.alloc (.cells #[.int .i64 h, .int .i64 e, .int .i64 n] 3)).drew = X := ⟨_, rfl⟩
  have hB : Below V.heap.size V X := by rw [← hX]; (repeat' (first | (with_reducible exact Below.refl _ _) | (with_reducible assumption) | (with_reducible refine Below.alloc ?_ ?_ _) | (with_reducible refine Below.drew ?_) | (with_reducible refine below_drewN ?_ _) | (with_reducible refine Below.setCell ?_ ?_ _) | (with_reducible refine below_after ?_ ?_ _) | (with_reducible refine below_set ?_) | (with_reducible refine After.size_le _ ?_) | (with_reducible refine size_alloc_le ?_) | (with_reducible refine size_set_le ?_) | (with_reducible refine size_drewN_le ?_) | go_size))
  have hs : X.heap.size = V.heap.size + 1 := by rw [← hX]; simp
  have c0 : X.cell? ⟨V.heap.size, 0, none⟩ = some (.int .i64 h) := by rw [← hX]; simp [go_sem]
  have c1 : X.cell? ⟨V.heap.size, 1, none⟩ = some (.int .i64 e) := by rw [← hX]; simp [go_sem]
  have c2 : X.cell? ⟨V.heap.size, 2, none⟩ = some (.int .i64 n) := by rw [← hX]; simp [go_sem]
  rw [hX]
  clear hX
  unfold InMk at hi
  refine (listed_any V.heap.size 0 3 [h, e, n] X (by omega) (by simp) (by simp; omega) ?_).mono ?_
  · intro i x hx
    rcases (show i = 0 ∨ i = 1 ∨ i = 2 ∨ 3 ≤ i by omega) with rfl | rfl | rfl | h3
    · simp at hx; subst hx; simpa using c0
    · simp at hx; subst hx; simpa using c1
    · simp at hx; subst hx; simpa using c2
    · rw [List.getElem?_eq_none (by simpa using h3)] at hx; cases hx
  · rintro e' w' ⟨rfl, h⟩
    exact ⟨rfl, hB.trans (h.mono hB.size)⟩

set_option maxRecDepth 100000 in
set_option maxHeartbeats 2000000 in
theorem rformat_ok (b off cap n : Nat) (f : Nat → Nat → Int) (w : World) (hb : b < w.heap.size) (hc : MkCells w b off n f) (hG : GoodM n f) (hv : RMSay w (.slice (some ⟨b, off, none⟩) n cap) true) :
    Calls Tryz.prog 9 #[.slice (some ⟨b, off, none⟩) n cap] w fun e w' => e = .returned (.string (tx (formL n f))) ∧ Below w.heap.size w w' := by
  have HV : Hid (∀ W, Below w.heap.size w W → _) := hv
  have HC := Lib.hid (fun W (hW : Below w.heap.size w W) => hc.on hb hW)
  have HG := Lib.hid hG
  have hn40 := hG.2.1
  clear hv hc hG
  go_enter Tryz.func9, Tryz.ntmps9
  go_wp2_with fail
  refine (HV.out _ (by (repeat' (first | (with_reducible exact Below.refl _ _) | (with_reducible assumption) | (with_reducible refine Below.alloc ?_ ?_ _) | (with_reducible refine Below.drew ?_) | (with_reducible refine below_drewN ?_ _) | (with_reducible refine Below.setCell ?_ ?_ _) | (with_reducible refine below_after ?_ ?_ _) | (with_reducible refine below_set ?_) | (with_reducible refine After.size_le _ ?_) | (with_reducible refine size_alloc_le ?_) | (with_reducible refine size_set_le ?_) | (with_reducible refine size_drewN_le ?_) | go_size)))).mono ?_
  rintro e0 w1 ⟨rfl, hb1⟩
  obtain ⟨x1, rfl⟩ := after_of' hb1
  clear hb1
  go_wp2
  go_loopw [3, 4] (fun s i wr => ∃ k : Nat, k ≤ n ∧ i = .int .i64 k ∧ s = .string (tx (formL k f)) ∧ (formL k f).length ≤ k * 64 ∧ ∃ x : After w, wr = x.w) (fun _ i _ => n - (intOf i).toNat)
  case atStart => exact ⟨0, by omega, rfl, rfl, by simp [formL], x1, rfl⟩
  case round =>
    obtain ⟨k, hk, rfl, rfl, hlen, x, rfl⟩ := hrel
    have hbx := x.size_lt hb
    by_cases hlt : k < n
    · obtain ⟨c0, c1, c2⟩ := HC.out x.w x.out k hlt
      have hM := (HG.out.2.2 k hlt).1
      have hS := formL_succ k f
      obtain ⟨q1, q2⟩ := listL_len _ _ _ hM
      have HL := Lib.hid (listed_three _ _ _ x.w hM)
      obtain ⟨E, hE⟩ : ∃ E, (listL [f k 0, f k 1, f k 2]).drop 1 = E := ⟨_, rfl⟩
      have hEl : E.length ≤ 62 := by rw [← hE]; simp; omega
      have HS : Hid ((formL k f ++ E) ++ [10] = formL (k + 1) f) := Lib.hid (by rw [hS, ← listL_three, hE]; simp)
      have hkn : (k : Int) < (n : Int) := by omega
      have hfrom : ∀ w : World, (Instr.slice 9 (.string (tx (listL [f k 0, f k 1, f k 2]))) (some (.int .i64 1)) none none).run Tryz.prog w = .ok (.string (tx E)) w := fun w => by
        rw [← hE]
        exact run_tx_from (P := Tryz.prog) w Tryz.underlying9 _ 1 q1
      clear hS hE
      generalize f k 0 = h0 at *
      generalize f k 1 = h1 at *
      generalize f k 2 = h2 at *
      generalize formL k f = S at *
      generalize listL [h0, h1, h2] = D at *
      have e0 : (⟨#[10]⟩ : ByteArray) = tx [10] := rfl
      have hT : ((S ++ E) ++ [10]).length ≤ (k + 1) * 64 := by simp; omega
      have hadd1 : ∀ w : World, (Op.stringOp .add (tx S) (tx E)).run Tryz.prog w = .ok (.string (tx (S ++ E))) w := fun w => run_tx_add w S E (by omega) (by omega)
      have hadd2 : ∀ w : World, (Op.stringOp .add (tx (S ++ E)) (tx [10])).run Tryz.prog w = .ok (.string (tx ((S ++ E) ++ [10]))) w := fun w => run_tx_add w (S ++ E) [10] (by simp; omega) (by simp)
      go_wp2
      go_region_held3 (fun w' => w'.cell? ⟨b, off + k * 3, none⟩ = some (.int .i64 h0) ∧ w'.cell? ⟨b, off + k * 3 + 1, none⟩ = some (.int .i64 h1) ∧ w'.cell? ⟨b, off + k * 3 + 2, none⟩ = some (.int .i64 h2))
        (first | (exact ⟨(hb5.cell (p := ⟨b, off + k * 3, none⟩) hbx).trans c0, (hb5.cell (p := ⟨b, off + k * 3 + 1, none⟩) hbx).trans c1, (hb5.cell (p := ⟨b, off + k * 3 + 2, none⟩) hbx).trans c2⟩) | go_keep)
        ((go_at_call 21; refine HL.out.mono ?_; rintro e w5 ⟨rfl, hb5⟩))
      all_goals
        go_wp2
        go_roundw
      case rel => exact ⟨k + 1, by omega, by go_num, by rw [← HS.out]; simp, by rw [← HS.out]; exact hT, ⟨_, x.out.trans (hb5.mono x.out.size)⟩, rfl⟩
      case measure => simp [intOf]; omega
    · obtain rfl : k = n := by omega
      go_wp2
      go_ret
      exact ⟨rfl, by (repeat' (first | (with_reducible exact Below.refl _ _) | (with_reducible assumption) | (with_reducible refine Below.alloc ?_ ?_ _) | (with_reducible refine Below.drew ?_) | (with_reducible refine below_drewN ?_ _) | (with_reducible refine Below.setCell ?_ ?_ _) | (with_reducible refine below_after ?_ ?_ _) | (with_reducible refine below_set ?_) | (with_reducible refine After.size_le _ ?_) | (with_reducible refine size_alloc_le ?_) | (with_reducible refine size_set_le ?_) | (with_reducible refine size_drewN_le ?_) | go_size))⟩
end Go.Proofs.YtldopcneellfbaaGreatDoor
