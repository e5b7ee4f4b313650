/- Uses of the call's own, and Same of the reference. -/
import Derived.Test.YtccjfmhbmieigaaDoorRoUapp
import Derived.Test.YtccjfmhbmieigaaDoorStd
namespace Go.Proofs.YtccjfmhbmieigaaDoor.Ro
open Go.Proofs.YtccjfmhbmieigaaDoor
open Go.RowKit
attribute [local go_sem] After.cell After.frozen After.lt After.le After.ne After.ne' After.set_eq After.size_set After.lt_add

theorem prc_owns {W : World} {base : Nat} {t : TypeId} {v : Value} {ps : List (Int × Int)} (h : W.ownsRow base t 2 v ps.length (pcv ps)) : Prc W W.heap.size v ps := by
  rcases Nat.eq_zero_or_pos ps.length with h0 | h0
  · obtain rfl : ps = [] := List.length_eq_zero_iff.1 h0
    rcases h.2 with ⟨e, _⟩ | ⟨g, cap, _, e, _, _, _, h1, _⟩
    · exact .inl ⟨e, rfl⟩
    · exact .inr (.inl ⟨_, cap, e, by unfold maxLen at h1; exact h1, rfl⟩)
  · exact prc_own h h0

set_option maxHeartbeats 400000 in
theorem sameU_nil (a a' : Option Addr) (c c' : Nat) (w : World) :
    Calls Tryd.prog 14 #[.slice a 0 c, .slice a' 0 c'] w fun e w' => e = .returned (.bool true) ∧ Below w.heap.size w w' := by
  go_enter Tryd.func14, Tryd.ntmps14
  go_wp2
  go_loopw [5] (fun i wr => i = .int .i64 0 ∧ ∃ x : After w, wr = x.w) (fun _ _ => 0)
  case atStart => exact ⟨rfl, ⟨w, Below.refl _ _⟩, rfl⟩
  case round =>
    obtain ⟨rfl, x, rfl⟩ := hrel
    go_wp2
    go_ret
    exact ⟨rfl, by (repeat' (first | (with_reducible exact Below.refl _ _) | (with_reducible assumption) | (with_reducible refine Below.alloc ?_ ?_ _) | (with_reducible refine Below.drew ?_) | (with_reducible refine below_drewN ?_ _) | (with_reducible refine Below.setCell ?_ ?_ _) | (with_reducible refine below_after ?_ ?_ _) | (with_reducible refine below_set ?_) | (with_reducible refine After.size_le _ ?_) | (with_reducible refine size_alloc_le ?_) | (with_reducible refine size_set_le ?_) | (with_reducible refine size_drewN_le ?_) | go_size))⟩

theorem neq_use (a b : Int) (w : World) : (binOp .neq 75 (.agg #[.int .i64 a, .int .i64 b]) (.agg #[.int .i64 a, .int .i64 b])).run Tryd.prog w = .ok (.bool false) w := by
  rw [run_neq_struct]
  go_simp
attribute [local go_sem 10000] neq_use

set_option maxRecDepth 100000 in
set_option maxHeartbeats 1000000 in
theorem sameU_row (b off b' off' c c' : Nat) (ps : List (Int × Int)) (w : World) (hb : b < w.heap.size) (hb' : b' < w.heap.size) (hn : ps.length ≤ 1000) (hc : PrCells w b off ps) (hc' : PrCells w b' off' ps) :
    Calls Tryd.prog 14 #[.slice (some ⟨b, off, none⟩) ps.length c, .slice (some ⟨b', off', none⟩) ps.length c'] w fun e w' => e = .returned (.bool true) ∧ Below w.heap.size w w' := by
  have HC := Lib.hid hc
  have HC' := Lib.hid hc'
  clear hc hc'
  go_enter Tryd.func14, Tryd.ntmps14
  go_wp2
  go_loopw [5] (fun i wr => ∃ k : Nat, k ≤ ps.length ∧ i = .int .i64 k ∧ ∃ x : After w, wr = x.w) (fun i _ => ps.length - (intOf i).toNat)
  case atStart => exact ⟨0, by omega, rfl, ⟨w, Below.refl _ _⟩, rfl⟩
  case round =>
    obtain ⟨k, hk, rfl, x, rfl⟩ := hrel
    by_cases hlt : k < ps.length
    · obtain ⟨c1, c2⟩ := HC.out k hlt
      obtain ⟨c3, c4⟩ := HC'.out k hlt
      generalize ps.getD k (0, 0) = p at *
      obtain ⟨hh, vv⟩ := p
      dsimp only at *
      go_wp2
      refine wp_region_after (by kernel_rfl) (by kernel_rfl) ?_; (repeat (first | go_big_quiet_step ((fail)) | (refine wpQuiet_step (fun K hK => ?_); go_simp; first | (refine hK _ ?_; clear hK K) | (apply Exists.intro; refine ⟨fun x => ?_, hK _ ?_⟩; (fail); clear hK K)))); refine wpQuiet_nil ?_
      intro y
      go_wp2
      go_roundw
      case rel => exact ⟨k + 1, by omega, by go_num, ⟨_, x.out.trans (y.out.mono x.out.size)⟩, rfl⟩
      case measure => simp [intOf]; omega
    · obtain rfl : k = ps.length := by omega
      go_wp2
      go_ret
      exact ⟨rfl, by (repeat' (first | (with_reducible exact Below.refl _ _) | (with_reducible assumption) | (with_reducible refine Below.alloc ?_ ?_ _) | (with_reducible refine Below.drew ?_) | (with_reducible refine below_drewN ?_ _) | (with_reducible refine Below.setCell ?_ ?_ _) | (with_reducible refine below_after ?_ ?_ _) | (with_reducible refine below_set ?_) | (with_reducible refine After.size_le _ ?_) | (with_reducible refine size_alloc_le ?_) | (with_reducible refine size_set_le ?_) | (with_reducible refine size_drewN_le ?_) | go_size))⟩
theorem sameU_own {W : World} {B B' : Nat} {v v' : Value} {L : List (Int × Int)} (hL : L.length ≤ 1000) (hr1 : W.ownsRow B 75 2 v L.length (pcv L)) (hr2 : W.ownsRow B' 75 2 v' L.length (pcv L)) :
    Calls Tryd.prog 14 #[v, v'] W fun e w' => e = .returned (.bool true) ∧ Below W.heap.size W w' := by
  by_cases h0 : L.length = 0
  · rw [h0] at hr1 hr2
    rcases Go.Joins.ownsRow_forms hr1 with ⟨rfl, _⟩ | ⟨g, c, rfl⟩ <;> rcases Go.Joins.ownsRow_forms hr2 with ⟨rfl, _⟩ | ⟨g', c', rfl⟩ <;> exact sameU_nil _ _ _ _ _
  · obtain ⟨g1, g2, g3⟩ := prOwn_of hr1 (by omega)
    obtain ⟨g, c, rfl, _, hb, _, hc⟩ := prOwn_of hr1 (by omega)
    obtain ⟨g', c', rfl, _, hb', _, hc'⟩ := prOwn_of hr2 (by omega)
    exact sameU_row g 0 g' 0 c c' L W hb hb' hL hc hc'
end Go.Proofs.YtccjfmhbmieigaaDoor.Ro
