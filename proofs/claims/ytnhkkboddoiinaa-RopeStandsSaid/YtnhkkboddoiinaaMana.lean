/- The closure that tells the shares with a man at a place. -/
import Derived.Test.YtnhkkboddoiinaaMan
namespace Go.Proofs.Ytnhkkboddoiinaa
open Go.RowKit
attribute [local go_sem] After.cell After.frozen After.lt After.le After.ne After.ne' After.set_eq After.size_set After.lt_add

set_option maxRecDepth 100000 in
set_option maxHeartbeats 4000000 in
theorem withMan1_any (s at' n : Int) (ps : List (Int × Int)) (v : Value) (sb lb wb : Nat) (W : World) (hp : Prc W W.heap.size v ps) (hG : GoodL s ps) (ha : Btw at' 0 s) (hn : Ld n)
    (c1 : W.cell? ⟨sb, 0, none⟩ = some (.int .i64 s)) (c2 : W.cell? ⟨lb, 0, none⟩ = some v) (c3 : W.cell? ⟨wb, 0, none⟩ = some (.int .i64 n)) :
    Calls Try.prog 99 #[.int .i64 at', .pointer (some ⟨sb, 0, none⟩), .pointer (some ⟨lb, 0, none⟩), .pointer (some ⟨wb, 0, none⟩)] W
      fun e w' => e = .returned (.tuple #[.int .i64 (fS s ps + n * (s - at')), .int .i64 (sS ps + n * at')]) ∧ Below W.heap.size W w' := by
  have hs : sb < W.heap.size := World.block_lt_of_cell? W _ c1
  have hlb : lb < W.heap.size := World.block_lt_of_cell? W _ c2
  have hw : wb < W.heap.size := World.block_lt_of_cell? W _ c3
  obtain ⟨a, cap, rfl⟩ := prc_slice hp
  have HK : Hid (Calls Try.prog 100 #[.slice (some ⟨W.heap.size + 1, 0, none⟩) 2 2] ((W.alloc (.cells #[.int .i64 at', .int .i64 n] 52)).alloc (.cells #[.slice a ps.length cap, .slice (some ⟨W.heap.size, 0, none⟩) 1 1] 40)).drew
      fun e w' => ∃ (a5 : Option Addr) (cap5 : Nat) (z : After W), e = .returned (.slice a5 (ps.length + 1) cap5) ∧ w' = z.w ∧ Hid (∀ W' : World, Below z.w.heap.size z.w W' → Calls Try.prog 71 #[.int .i64 s, .slice a5 (ps.length + 1) cap5] W' fun e w' => e = .returned (.tuple #[.int .i64 (fS s ps + n * (s - at')), .int .i64 (sS ps + n * at')]) ∧ Below W'.heap.size W' w')) := by
    refine Lib.hid ((concatL_two ps at' n (.slice a ps.length cap) W.drew hp hG.2.1).mono ?_)
    rintro e w' ⟨v', rfl, ho, hb⟩
    obtain ⟨a5, cap5, rfl⟩ : ∃ a5 cap5, v' = .slice a5 (ps.length + 1) cap5 := by
      obtain ⟨g, c, rfl⟩ := Go.Joins.ownsRow_form ho (by simp)
      exact ⟨some ⟨g, 0, none⟩, c, by simp⟩
    refine ⟨a5, cap5, ⟨w', ?_⟩, rfl, rfl, Lib.hid fun W' hW' => man_shares s at' n ps _ _ W' hG ha hn (owns_below ho hW')⟩
    have h1 : Below W.heap.size W ((W.alloc (.cells #[.int .i64 at', .int .i64 n] 52)).alloc (.cells #[.slice a ps.length cap, .slice (some ⟨W.heap.size, 0, none⟩) 1 1] 40)).drew := by (repeat' (first | (with_reducible exact Below.refl _ _) | (with_reducible assumption) | (with_reducible refine Below.alloc ?_ ?_ _) | (with_reducible refine Below.drew ?_) | (with_reducible refine below_drewN ?_ _) | (with_reducible refine Below.setCell ?_ ?_ _) | (with_reducible refine below_after ?_ ?_ _) | (with_reducible refine below_set ?_) | (with_reducible refine After.size_le _ ?_) | (with_reducible refine size_alloc_le ?_) | (with_reducible refine size_set_le ?_) | (with_reducible refine size_drewN_le ?_) | go_size))
    exact h1.trans (hb.mono (show W.heap.size ≤ W.heap.size + 2 by omega))
  clear hp hG ha hn
  generalize fS s ps + n * (s - at') = F at *
  generalize sS ps + n * at' = T at *
  generalize ps.length = m at *
  go_enter Try.func99, Try.ntmps99
  go_wp2_with fail
  go_region_with (first | (go_at_call 100; refine HK.out.mono ?_; rintro e w5 ⟨a5, cap5, z, rfl, rfl, HZ⟩; have hz := z.out.size; have hsz : sb < z.w.heap.size := (by omega)) | (go_at_call 71; refine calls_after2 (HZ.out _ (by (repeat' (first | (with_reducible exact Below.refl _ _) | (with_reducible assumption) | (with_reducible refine Below.alloc ?_ ?_ _) | (with_reducible refine Below.drew ?_) | (with_reducible refine below_drewN ?_ _) | (with_reducible refine Below.setCell ?_ ?_ _) | (with_reducible refine below_after ?_ ?_ _) | (with_reducible refine below_set ?_) | (with_reducible refine After.size_le _ ?_) | (with_reducible refine size_alloc_le ?_) | (with_reducible refine size_set_le ?_) | (with_reducible refine size_drewN_le ?_) | go_size)))) ?_; intro y))
  all_goals
    go_wp2
    go_returns
    exact ⟨rfl, by (repeat' (first | (with_reducible exact Below.refl _ _) | (with_reducible assumption) | (with_reducible refine Below.alloc ?_ ?_ _) | (with_reducible refine Below.drew ?_) | (with_reducible refine below_drewN ?_ _) | (with_reducible refine Below.setCell ?_ ?_ _) | (with_reducible refine below_after ?_ ?_ _) | (with_reducible refine below_set ?_) | (with_reducible refine After.size_le _ ?_) | (with_reducible refine size_alloc_le ?_) | (with_reducible refine size_set_le ?_) | (with_reducible refine size_drewN_le ?_) | go_size))⟩
end Go.Proofs.Ytnhkkboddoiinaa
