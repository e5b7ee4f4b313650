/- The shares of a cradle's ropes, in both programs. -/
import Derived.Test.YtnhkkboddoiinaaLoads
namespace Go.Proofs.Ytnhkkboddoiinaa
open Go.RowKit
attribute [local go_sem] After.cell After.frozen After.lt After.le After.ne After.ne' After.set_eq After.size_set After.lt_add

set_option maxRecDepth 100000 in
set_option maxHeartbeats 1000000 in
theorem shares_row (s : Int) (b off cap : Nat) (ps : List (Int × Int)) (w : World) (hb : b < w.heap.size) (hG : GoodL s ps) (hc : PrCells w b off ps) :
    Calls Try.prog 71 #[.int .i64 s, .slice (some ⟨b, off, none⟩) ps.length cap] w fun e w' => e = .returned (.tuple #[.int .i64 (fS s ps), .int .i64 (sS ps)]) ∧ Below w.heap.size w w' := by
  have HC := Lib.hid hc
  have HG := Lib.hid hG
  have hl := hG.2.1
  clear hc hG
  go_enter Try.func71, Try.ntmps71
  go_wp2
  go_loopw [4, 5, 7, 10] (fun f t u i wr => ∃ k : Nat, k ≤ ps.length ∧ i = .int .i64 k ∧ f = .int .i64 (fS s (ps.take k)) ∧ t = .int .i64 (sS (ps.take k)) ∧ ∃ x : After w, wr = x.w) (fun _ _ _ i _ => ps.length - (intOf i).toNat)
  case atStart => exact ⟨0, by omega, rfl, rfl, rfl, ⟨w, Below.refl _ _⟩, rfl⟩
  case round =>
    obtain ⟨k, hk, rfl, rfl, rfl, x, rfl⟩ := hrel
    have hbx := x.size_lt hb
    by_cases hlt : k < ps.length
    · obtain ⟨c1, c2⟩ := HC.out k hlt
      obtain ⟨t1, t2, t3, t4, _, _⟩ := take_bd HG.out k
      obtain ⟨o1, o2, o3, o4, o5, o6, o7, o8, o9, o10⟩ := okL_bd HG.out.1 (HG.out.2.2 k hlt)
      have E1 : Hid (fS s (ps.take (k + 1)) = fS s (ps.take k) + (ldAt ps k).2 * (s - (ldAt ps k).1)) := Lib.hid (by rw [take_one' (0, 0) hlt, fS_snoc]; rfl)
      have E2 : Hid (sS (ps.take (k + 1)) = sS (ps.take k) + (ldAt ps k).2 * (ldAt ps k).1) := Lib.hid (by rw [take_one' (0, 0) hlt, sS_snoc]; rfl)
      unfold ldAt at *
      generalize ps.getD k (0, 0) = p at *
      obtain ⟨h, v⟩ := p
      dsimp only at *
      go_wp2
      go_roundw
      case rel => exact ⟨k + 1, by omega, by go_num, by rw [E1.out], by rw [E2.out], ⟨_, x.out.alloc x.out.size _⟩, rfl⟩
      case measure => simp [intOf]; omega
    · obtain rfl : k = ps.length := by omega
      go_wp2
      go_returns
      exact ⟨by rw [List.take_length]; rfl, by (repeat' (first | (with_reducible exact Below.refl _ _) | (with_reducible assumption) | (with_reducible refine Below.alloc ?_ ?_ _) | (with_reducible refine Below.drew ?_) | (with_reducible refine below_drewN ?_ _) | (with_reducible refine Below.setCell ?_ ?_ _) | (with_reducible refine below_after ?_ ?_ _) | (with_reducible refine below_set ?_) | (with_reducible refine After.size_le _ ?_) | (with_reducible refine size_alloc_le ?_) | (with_reducible refine size_set_le ?_) | (with_reducible refine size_drewN_le ?_) | go_size))⟩
set_option maxRecDepth 100000 in
set_option maxHeartbeats 400000 in
theorem shares_empty (s : Int) (a : Option Addr) (cap : Nat) (w : World) :
    Calls Try.prog 71 #[.int .i64 s, .slice a 0 cap] w fun e w' => e = .returned (.tuple #[.int .i64 0, .int .i64 0]) ∧ Below w.heap.size w w' := by
  go_enter Try.func71, Try.ntmps71
  go_wp2
  go_loopw [4, 5, 7, 10] (fun f t u i wr => i = .int .i64 0 ∧ f = .int .i64 0 ∧ t = .int .i64 0 ∧ wr = w) (fun _ _ _ _ _ => 0)
  case atStart => exact ⟨rfl, rfl, rfl, rfl⟩
  case round =>
    obtain ⟨rfl, rfl, rfl, rfl⟩ := hrel
    go_wp2
    go_returns
    exact ⟨rfl, by (repeat' (first | (with_reducible exact Below.refl _ _) | (with_reducible assumption) | (with_reducible refine Below.alloc ?_ ?_ _) | (with_reducible refine Below.drew ?_) | (with_reducible refine below_drewN ?_ _) | (with_reducible refine Below.setCell ?_ ?_ _) | (with_reducible refine below_after ?_ ?_ _) | (with_reducible refine below_set ?_) | (with_reducible refine After.size_le _ ?_) | (with_reducible refine size_alloc_le ?_) | (with_reducible refine size_set_le ?_) | (with_reducible refine size_drewN_le ?_) | go_size))⟩
theorem shares_v (s : Int) (v : Value) (ps : List (Int × Int)) (w : World) (h : Prs w w.heap.size v ps) (hG : GoodL s ps) :
    Calls Try.prog 71 #[.int .i64 s, v] w fun e w' => e = .returned (.tuple #[.int .i64 (fS s ps), .int .i64 (sS ps)]) ∧ Below w.heap.size w w' := by
  rcases h with ⟨a, cap, rfl, rfl⟩ | ⟨b, off, cap, rfl, hb, _, hc⟩
  · exact shares_empty s a cap w
  · exact shares_row s b off cap ps w hb hG hc

set_option maxRecDepth 100000 in
set_option maxHeartbeats 1000000 in
theorem levers_row (s : Int) (b off cap : Nat) (ps : List (Int × Int)) (w : World) (_hb : b < w.heap.size) (hG : GoodL s ps) (hc : PrCells w b off ps) :
    Calls Try.prog 72 #[.int .i64 s, .slice (some ⟨b, off, none⟩) ps.length cap] w fun e w' => e = .returned (.tuple #[.int .i64 (fS s ps), .int .i64 (sS ps), .int .i64 (aS ps)]) ∧ Below w.heap.size w w' := by
  have HC := Lib.hid hc
  have HG := Lib.hid hG
  have hl := hG.2.1
  clear hc hG
  go_enter Try.func72, Try.ntmps72
  go_wp2
  go_loopw [4, 5, 6, 7] (fun f t u i wr => ∃ k : Nat, k ≤ ps.length ∧ i = .int .i64 k ∧ f = .int .i64 (fS s (ps.take k)) ∧ t = .int .i64 (sS (ps.take k)) ∧ u = .int .i64 (aS (ps.take k)) ∧ ∃ n, wr = w.drewN n) (fun _ _ _ i _ => ps.length - (intOf i).toNat)
  case atStart => exact ⟨0, by omega, rfl, rfl, rfl, rfl, 0, rfl⟩
  case round =>
    obtain ⟨k, hk, rfl, rfl, rfl, rfl, m, rfl⟩ := hrel
    by_cases hlt : k < ps.length
    · obtain ⟨c1, c2⟩ := HC.out k hlt
      obtain ⟨t1, t2, t3, t4, t5, t6⟩ := take_bd HG.out k
      obtain ⟨o1, o2, o3, o4, o5, o6, o7, o8, o9, o10⟩ := okL_bd HG.out.1 (HG.out.2.2 k hlt)
      have E1 : Hid (fS s (ps.take (k + 1)) = fS s (ps.take k) + (ldAt ps k).2 * (s - (ldAt ps k).1)) := Lib.hid (by rw [take_one' (0, 0) hlt, fS_snoc]; rfl)
      have E2 : Hid (sS (ps.take (k + 1)) = sS (ps.take k) + (ldAt ps k).2 * (ldAt ps k).1) := Lib.hid (by rw [take_one' (0, 0) hlt, sS_snoc]; rfl)
      have E3 : Hid (aS (ps.take (k + 1)) = aS (ps.take k) + (ldAt ps k).2) := Lib.hid (by rw [take_one' (0, 0) hlt, aS_snoc]; rfl)
      unfold ldAt at *
      generalize ps.getD k (0, 0) = p at *
      obtain ⟨h, v⟩ := p
      dsimp only at *
      have hkl : (k : Int) < (ps.length : Int) := by omega
      go_wp2
      go_quiet (fail)
      go_wp2
      go_quiet (fail)
      go_wp2
      go_roundw
      case rel => exact ⟨k + 1, by omega, by go_num, by rw [E1.out], by rw [E2.out], by rw [E3.out], _, rfl⟩
      case measure => simp [intOf]; omega
    · obtain rfl : k = ps.length := by omega
      go_wp2
      go_returns
      exact ⟨by rw [List.take_length]; rfl, by (repeat' (first | (with_reducible exact Below.refl _ _) | (with_reducible assumption) | (with_reducible refine Below.alloc ?_ ?_ _) | (with_reducible refine Below.drew ?_) | (with_reducible refine below_drewN ?_ _) | (with_reducible refine Below.setCell ?_ ?_ _) | (with_reducible refine below_after ?_ ?_ _) | (with_reducible refine below_set ?_) | (with_reducible refine After.size_le _ ?_) | (with_reducible refine size_alloc_le ?_) | (with_reducible refine size_set_le ?_) | (with_reducible refine size_drewN_le ?_) | go_size))⟩
set_option maxRecDepth 100000 in
set_option maxHeartbeats 400000 in
theorem levers_empty (s : Int) (a : Option Addr) (cap : Nat) (w : World) :
    Calls Try.prog 72 #[.int .i64 s, .slice a 0 cap] w fun e w' => e = .returned (.tuple #[.int .i64 0, .int .i64 0, .int .i64 0]) ∧ Below w.heap.size w w' := by
  go_enter Try.func72, Try.ntmps72
  go_wp2
  go_loopw [4, 5, 6, 7] (fun f t u i wr => i = .int .i64 0 ∧ f = .int .i64 0 ∧ t = .int .i64 0 ∧ u = .int .i64 0 ∧ wr = w) (fun _ _ _ _ _ => 0)
  case atStart => exact ⟨rfl, rfl, rfl, rfl, rfl⟩
  case round =>
    obtain ⟨rfl, rfl, rfl, rfl, rfl⟩ := hrel
    go_wp2
    go_returns
    exact ⟨rfl, by (repeat' (first | (with_reducible exact Below.refl _ _) | (with_reducible assumption) | (with_reducible refine Below.alloc ?_ ?_ _) | (with_reducible refine Below.drew ?_) | (with_reducible refine below_drewN ?_ _) | (with_reducible refine Below.setCell ?_ ?_ _) | (with_reducible refine below_after ?_ ?_ _) | (with_reducible refine below_set ?_) | (with_reducible refine After.size_le _ ?_) | (with_reducible refine size_alloc_le ?_) | (with_reducible refine size_set_le ?_) | (with_reducible refine size_drewN_le ?_) | go_size))⟩
theorem levers_v (s : Int) (v : Value) (ps : List (Int × Int)) (w : World) (h : Prs w w.heap.size v ps) (hG : GoodL s ps) :
    Calls Try.prog 72 #[.int .i64 s, v] w fun e w' => e = .returned (.tuple #[.int .i64 (fS s ps), .int .i64 (sS ps), .int .i64 (aS ps)]) ∧ Below w.heap.size w w' := by
  rcases h with ⟨a, cap, rfl, rfl⟩ | ⟨b, off, cap, rfl, hb, _, hc⟩
  · exact levers_empty s a cap w
  · exact levers_row s b off cap ps w hb hG hc
end Go.Proofs.Ytnhkkboddoiinaa
