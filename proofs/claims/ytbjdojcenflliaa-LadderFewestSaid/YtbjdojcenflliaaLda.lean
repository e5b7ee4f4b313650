/- awake of layer 3. -/
import Derived.Test.YtbjdojcenflliaaLdo
namespace Go.Proofs.Ytbjdojcenflliaa
open Go.RowKit Go.Shelf Go.Maps
attribute [local go_sem] Oper.semAt_some
attribute [local go_sem] After.cell After.frozen After.lt After.le After.ne After.ne' After.set_eq After.size_set After.lt_add

def awh (k : Nat) : Int := 10 * ((k : Int) + 1)
theorem aw_fw : fwL awh (fun _ => true) 4 10 20 (50 - 20) = [0, 2] := by decide +kernel
theorem aw_vc : VcP 10 20 50 25 5 1000 := by unfold VcP Bt3; omega
theorem aw_vj : VjP 4 awh := ⟨by omega, fun i hi => by
  match i, hi with
  | 0, _ => decide
  | 1, _ => decide
  | 2, _ => decide
  | 3, _ => decide⟩
set_option maxRecDepth 100000 in
set_option maxHeartbeats 2000000 in
theorem awake_any (w : World) :
    Calls Try.prog 11 #[] w fun e w' => e = .returned (.bool true) ∧ Below w.heap.size w w' := by
  have HF : Hid (∀ W b, JtAt W (some ⟨b, 0, none⟩) 4 awh (fun _ => true) → Calls Try.prog 22 #[.agg #[.int .i64 10, .int .i64 20, .int .i64 50, .int .i64 25, .int .i64 5, .int .i64 1000], .slice (some ⟨b, 0, none⟩) 4 4] W fun e w' => (∃ v, e = .returned (.tuple #[v, .int .i64 0]) ∧ NAt w' v [0, 2]) ∧ Below W.heap.size W w') := Lib.hid (fun W b h => by
    refine (Fewest_ok 10 20 50 25 5 1000 (some ⟨b, 0, none⟩) 4 4 awh _ W h (by omega) aw_vc aw_vj).mono ?_
    rintro e w' ⟨h1, h2⟩
    rw [aw_fw] at h1
    rcases h1 with ⟨h3, _⟩ | ⟨_, v, h3, h4⟩
    · cases h3
    · exact ⟨⟨v, h3, h4⟩, h2⟩)
  go_enter Try.func11, Try.ntmps11
  go_wp2_with fail
  obtain ⟨W0, hW0⟩ : ∃ W0, w.alloc (.cells #[.int .i64 10, .bool true, .int .i64 20, .bool true, .int .i64 30, .bool true, .int .i64 40, .bool true] 53) = W0 := ⟨_, rfl⟩
  have b0 : Below w.heap.size w W0 := by rw [← hW0]; (repeat' (first | (with_reducible exact Below.refl _ _) | (with_reducible assumption) | (with_reducible refine Below.alloc ?_ ?_ _) | (with_reducible refine Below.drew ?_) | (with_reducible refine below_drewN ?_ _) | (with_reducible refine Below.setCell ?_ ?_ _) | (with_reducible refine below_after ?_ ?_ _) | (with_reducible refine below_set ?_) | (with_reducible refine After.size_le _ ?_) | (with_reducible refine size_alloc_le ?_) | (with_reducible refine size_set_le ?_) | (with_reducible refine size_drewN_le ?_) | go_size))
  have hJ : JtAt W0 (some ⟨w.heap.size, 0, none⟩) 4 awh (fun _ => true) := by
    rw [← hW0]
    intro k hk
    refine ⟨w.heap.size, 0, rfl, by simp, ?_⟩
    match k, hk with
    | 0, _ => exact ⟨by simp [go_sem, awh], by simp [go_sem]⟩
    | 1, _ => exact ⟨by simp [go_sem, awh], by simp [go_sem]⟩
    | 2, _ => exact ⟨by simp [go_sem, awh], by simp [go_sem]⟩
    | 3, _ => exact ⟨by simp [go_sem, awh], by simp [go_sem]⟩
  rw [hW0]
  clear hW0
  have HB := Lib.hid b0
  refine (HF.out W0 _ hJ).mono ?_
  rintro e w2 ⟨⟨v, rfl, hN⟩, hb2⟩
  have HB2 := Lib.hid (HB.out.trans (hb2.mono HB.out.size))
  clear hb2 HB b0 hJ HF
  rcases hN with ⟨_, h⟩ | ⟨b, off, cp, rfl, hb, hc⟩
  · cases h
  · have c0 : w2.cell? ⟨b, off, none⟩ = some (.int .i64 0) := by have := hc 0 (by simp); simpa using this
    have c1 : w2.cell? ⟨b, off + 1, none⟩ = some (.int .i64 2) := by have := hc 1 (by simp); simpa using this
    simp only [List.length_cons, List.length_nil]
    clear hc
    go_wp2
    go_ret
    exact ⟨rfl, HB2.out⟩
end Go.Proofs.Ytbjdojcenflliaa
