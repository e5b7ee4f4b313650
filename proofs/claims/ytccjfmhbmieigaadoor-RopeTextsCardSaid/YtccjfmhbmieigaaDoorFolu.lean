/- follows(u, x) of uses u in any form: whether x may come behind them. -/
import Derived.Test.YtccjfmhbmieigaaDoorRoUses
import Derived.Test.YtccjfmhbmieigaaDoorRoWorn
import Derived.Test.YtccjfmhbmieigaaDoorTwod
namespace Go.Proofs.YtccjfmhbmieigaaDoor
open Go.RowKit Ro
attribute [local go_sem] After.cell After.frozen After.lt After.le After.ne After.ne' After.set_eq After.size_set After.lt_add

set_option maxRecDepth 100000 in
set_option maxHeartbeats 1000000 in
theorem follows_at (a : Option Addr) (k cap : Nat) (x y z : Int) (w : World) (hk : k ≤ 1000)
    (hL : ∀ W, Below w.heap.size w W → Calls Tryd.prog 66 #[.slice a k cap] W fun e w' => e = .returned (.int .i64 z) ∧ W = w') :
    Calls Tryd.prog 34 #[.slice a k cap, .agg #[.int .i64 x, .int .i64 y]] w fun e w' => e = .returned (.bool (decide (k < 500 ∧ Btw x z 100000 ∧ Ld y))) ∧ Below w.heap.size w w' := by
  have HL := Lib.hid hL
  clear hL
  by_cases h1 : k < 500
  · have d1 : decide ((k : Int) < 500) = true := decide_eq_true (by omega)
    by_cases h2 : Btw x (z) 100000
    · have e : decide (k < 500 ∧ Btw x z 100000 ∧ Ld y) = decide (Ld y) := by simp [h1, h2]
      have HB := Lib.hid (fun w => between_t x (z) 100000 w h2)
      rw [e]
      have HD := Lib.hid (fun w => validLoad_any y _ rfl w)
      generalize decide (Ld y) = g at *
      clear h1 h2 e
      go_enter Tryd.func34, Tryd.ntmps34
      go_wp2_with fail
      refine wp_region_after (by kernel_rfl) (by kernel_rfl) ?_; (repeat (first | go_big_quiet_step ((first | (go_at_call 66; exact quiet_after_same (HL.out _ (by (repeat' (first | (with_reducible exact Below.refl _ _) | (with_reducible assumption) | (with_reducible refine Below.alloc ?_ ?_ _) | (with_reducible refine Below.drew ?_) | (with_reducible refine below_drewN ?_ _) | (with_reducible refine Below.setCell ?_ ?_ _) | (with_reducible refine below_after ?_ ?_ _) | (with_reducible refine below_set ?_) | (with_reducible refine After.size_le _ ?_) | (with_reducible refine size_alloc_le ?_) | (with_reducible refine size_set_le ?_) | (with_reducible refine size_drewN_le ?_) | go_size))))) | (go_at_call 65; exact quiet_after_same (HB.out _)) | (go_at_call 59; exact quiet_after_same (HD.out _)))) | (refine wpQuiet_step (fun K hK => ?_); go_simp; first | (refine hK _ ?_; clear hK K) | (apply Exists.intro; refine ⟨fun x => ?_, hK _ ?_⟩; (first | (go_at_call 66; exact quiet_after_same (HL.out _ (by (repeat' (first | (with_reducible exact Below.refl _ _) | (with_reducible assumption) | (with_reducible refine Below.alloc ?_ ?_ _) | (with_reducible refine Below.drew ?_) | (with_reducible refine below_drewN ?_ _) | (with_reducible refine Below.setCell ?_ ?_ _) | (with_reducible refine below_after ?_ ?_ _) | (with_reducible refine below_set ?_) | (with_reducible refine After.size_le _ ?_) | (with_reducible refine size_alloc_le ?_) | (with_reducible refine size_set_le ?_) | (with_reducible refine size_drewN_le ?_) | go_size))))) | (go_at_call 65; exact quiet_after_same (HB.out _)) | (go_at_call 59; exact quiet_after_same (HD.out _))); clear hK K)))); refine wpQuiet_nil ?_
      intro x1
      go_wp2
      go_ret
      exact ⟨rfl, by (repeat' (first | (with_reducible exact Below.refl _ _) | (with_reducible assumption) | (with_reducible refine Below.alloc ?_ ?_ _) | (with_reducible refine Below.drew ?_) | (with_reducible refine below_drewN ?_ _) | (with_reducible refine Below.setCell ?_ ?_ _) | (with_reducible refine below_after ?_ ?_ _) | (with_reducible refine below_set ?_) | (with_reducible refine After.size_le _ ?_) | (with_reducible refine size_alloc_le ?_) | (with_reducible refine size_set_le ?_) | (with_reducible refine size_drewN_le ?_) | go_size))⟩
    · have e : decide (k < 500 ∧ Btw x z 100000 ∧ Ld y) = false := by simp [h2]
      have HB := Lib.hid (fun w => between_f x (z) 100000 w h2)
      rw [e]
      clear h1 h2 e
      go_enter Tryd.func34, Tryd.ntmps34
      go_wp2_with fail
      refine wp_region_after (by kernel_rfl) (by kernel_rfl) ?_; (repeat (first | go_big_quiet_step ((first | (go_at_call 66; exact quiet_after_same (HL.out _ (by (repeat' (first | (with_reducible exact Below.refl _ _) | (with_reducible assumption) | (with_reducible refine Below.alloc ?_ ?_ _) | (with_reducible refine Below.drew ?_) | (with_reducible refine below_drewN ?_ _) | (with_reducible refine Below.setCell ?_ ?_ _) | (with_reducible refine below_after ?_ ?_ _) | (with_reducible refine below_set ?_) | (with_reducible refine After.size_le _ ?_) | (with_reducible refine size_alloc_le ?_) | (with_reducible refine size_set_le ?_) | (with_reducible refine size_drewN_le ?_) | go_size))))) | (go_at_call 65; exact quiet_after_same (HB.out _)))) | (refine wpQuiet_step (fun K hK => ?_); go_simp; first | (refine hK _ ?_; clear hK K) | (apply Exists.intro; refine ⟨fun x => ?_, hK _ ?_⟩; (first | (go_at_call 66; exact quiet_after_same (HL.out _ (by (repeat' (first | (with_reducible exact Below.refl _ _) | (with_reducible assumption) | (with_reducible refine Below.alloc ?_ ?_ _) | (with_reducible refine Below.drew ?_) | (with_reducible refine below_drewN ?_ _) | (with_reducible refine Below.setCell ?_ ?_ _) | (with_reducible refine below_after ?_ ?_ _) | (with_reducible refine below_set ?_) | (with_reducible refine After.size_le _ ?_) | (with_reducible refine size_alloc_le ?_) | (with_reducible refine size_set_le ?_) | (with_reducible refine size_drewN_le ?_) | go_size))))) | (go_at_call 65; exact quiet_after_same (HB.out _))); clear hK K)))); refine wpQuiet_nil ?_
      intro x1
      go_wp2
      go_ret
      exact ⟨rfl, by (repeat' (first | (with_reducible exact Below.refl _ _) | (with_reducible assumption) | (with_reducible refine Below.alloc ?_ ?_ _) | (with_reducible refine Below.drew ?_) | (with_reducible refine below_drewN ?_ _) | (with_reducible refine Below.setCell ?_ ?_ _) | (with_reducible refine below_after ?_ ?_ _) | (with_reducible refine below_set ?_) | (with_reducible refine After.size_le _ ?_) | (with_reducible refine size_alloc_le ?_) | (with_reducible refine size_set_le ?_) | (with_reducible refine size_drewN_le ?_) | go_size))⟩
  · have d1 : decide ((k : Int) < 500) = false := decide_eq_false (by omega)
    have e : decide (k < 500 ∧ Btw x z 100000 ∧ Ld y) = false := by simp [h1]
    rw [e]
    clear h1 e HL
    go_enter Tryd.func34, Tryd.ntmps34
    go_wp2_with fail
    refine wp_region_after (by kernel_rfl) (by kernel_rfl) ?_; (repeat (first | go_big_quiet_step ((fail)) | (refine wpQuiet_step (fun K hK => ?_); go_simp; first | (refine hK _ ?_; clear hK K) | (apply Exists.intro; refine ⟨fun x => ?_, hK _ ?_⟩; (fail); clear hK K)))); refine wpQuiet_nil ?_
    intro x1
    go_wp2
    go_ret
    exact ⟨rfl, by (repeat' (first | (with_reducible exact Below.refl _ _) | (with_reducible assumption) | (with_reducible refine Below.alloc ?_ ?_ _) | (with_reducible refine Below.drew ?_) | (with_reducible refine below_drewN ?_ _) | (with_reducible refine Below.setCell ?_ ?_ _) | (with_reducible refine below_after ?_ ?_ _) | (with_reducible refine below_set ?_) | (with_reducible refine After.size_le _ ?_) | (with_reducible refine size_alloc_le ?_) | (with_reducible refine size_set_le ?_) | (with_reducible refine size_drewN_le ?_) | go_size))⟩

set_option maxRecDepth 100000 in
set_option maxHeartbeats 400000 in
theorem last_empty (a : Option Addr) (cap : Nat) (w : World) :
    Calls Tryd.prog 66 #[.slice a (0 : Nat) cap] w fun e w' => e = .returned (.int .i64 0) ∧ w = w' := by
  go_enter Tryd.func66, Tryd.ntmps66
  go_wp2
  go_ret
  exact ⟨rfl, rfl⟩
theorem goodU_behind {ps : List (Int × Int)} {q : Int × Int} (h : GoodU ps) : GoodU (ps ++ [q]) ↔ ps.length < 500 ∧ Btw q.1 (lastN ps ps.length) 100000 ∧ Ld q.2 := by
  have hu : usAt (ps ++ [q]) ps.length = q := by unfold usAt; rw [List.getD_eq_getElem?_getD, List.getElem?_append_right (Nat.le_refl _)]; simp
  have ho : ∀ j, j < ps.length → usAt (ps ++ [q]) j = usAt ps j := fun j hj => by unfold usAt; rw [List.getD_eq_getElem?_getD, List.getD_eq_getElem?_getD, List.getElem?_append_left hj]
  have hl : lastN (ps ++ [q]) ps.length = lastN ps ps.length := by
    unfold lastN
    by_cases h0 : ps.length = 0
    · rw [if_pos h0, if_pos h0]
    · rw [if_neg h0, if_neg h0, ho _ (by omega)]
  have hok : ∀ j, j < ps.length → OkU (ps ++ [q]) j := fun j hj => by
    have := h.2 j hj
    unfold OkU at this ⊢
    rw [ho j hj]
    exact ⟨this.1, this.2.1, fun h0 => by rw [ho _ (by omega)]; exact this.2.2 h0⟩
  have hf := folN_ok (ps := ps ++ [q]) (k := ps.length) (by simp) hok
  unfold FolN at hf
  rw [hu, hl] at hf
  rw [hf]
  constructor
  · rintro ⟨a, b⟩
    rw [List.length_append, List.length_singleton] at a b
    exact ⟨by omega, b _ (by omega)⟩
  · rintro ⟨a, b⟩
    refine ⟨by rw [List.length_append, List.length_singleton]; omega, fun k hk => ?_⟩
    rw [List.length_append, List.length_singleton] at hk
    by_cases e : k = ps.length
    · rw [e]; exact b
    · exact hok k (by omega)
theorem follows_new (v : Value) (ps : List (Int × Int)) (q : Int × Int) (w : World) (hG : GoodU ps) (h : Prc w w.heap.size v ps) :
    Calls Tryd.prog 34 #[v, .agg #[.int .i64 q.1, .int .i64 q.2]] w fun e w' => e = .returned (.bool (decide (GoodU (ps ++ [q])))) ∧ Below w.heap.size w w' := by
  have hl := hG.1
  have e : decide (GoodU (ps ++ [q])) = decide (ps.length < 500 ∧ Btw q.1 (lastN ps ps.length) 100000 ∧ Ld q.2) := by rw [decide_eq_decide]; exact goodU_behind hG
  rw [e]
  rcases h with ⟨rfl, rfl⟩ | ⟨p, cap, rfl, _, rfl⟩ | ⟨b, off, cap, rfl, h0, h1, h2, hb, hc⟩
  · exact follows_at none 0 0 q.1 q.2 0 w (by omega) fun W _ => last_empty none 0 W
  · exact follows_at (some p) 0 cap q.1 q.2 0 w (by omega) fun W _ => last_empty (some p) cap W
  · exact follows_at _ ps.length cap q.1 q.2 _ w (by omega) fun W hW => last_row b off cap ps.length ps W (Nat.le_refl _) (by omega) (prCells_on hb hc hW)
end Go.Proofs.YtccjfmhbmieigaaDoor
