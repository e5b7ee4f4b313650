/- LeanWorst: the law's walk. -/
import Derived.Test.YtdhobjflfhijjaaRworstb
namespace Go.Proofs.Ytdhobjflfhijjaa
open Go.RowKit
attribute [local go_sem 10000] eql_line neq_line eql_ratio neq_ratio
attribute [local go_sem] After.cell After.frozen After.lt After.le After.ne After.ne' After.set_eq After.size_set After.lt_add eq3_self eq2_self

set_option maxRecDepth 100000 in
set_option maxHeartbeats 1000000 in
theorem leanWorst_long (a b d : Int) (ad : Option Addr) (n cap : Nat) (w : World) (hn : 100 < n) :
    Calls Try.prog 6 #[.agg #[.int .i64 a, .int .i64 b, .int .i64 d], .slice ad n cap] w fun e w' => e = .returned (.bool true) ∧ Below w.heap.size w w' := by
  go_enter Try.func6, Try.ntmps6
  (go_wp2_with fail); refine calls_after (awake_any _) ?_; intro x1
  go_wp2
  go_ret
  exact ⟨rfl, by (repeat' (first | (with_reducible exact Below.refl _ _) | (with_reducible assumption) | (with_reducible refine Below.alloc ?_ ?_ _) | (with_reducible refine Below.drew ?_) | (with_reducible refine below_drewN ?_ _) | (with_reducible refine Below.setCell ?_ ?_ _) | (with_reducible refine below_after ?_ ?_ _) | (with_reducible refine below_set ?_) | (with_reducible refine After.size_le _ ?_) | (with_reducible refine size_alloc_le ?_) | (with_reducible refine size_set_le ?_) | (with_reducible refine size_drewN_le ?_) | go_size))⟩
set_option maxRecDepth 100000 in
set_option maxHeartbeats 1000000 in
theorem leanWorst_walk (a b d i fn fd e : Int) (B : Bool) (ad : Option Addr) (n cap : Nat) (w : World) (hn : n ≤ 100)
    (HW : Hid (∀ W, Below w.heap.size w W → Calls Try.prog 36 #[.agg #[.int .i64 a, .int .i64 b, .int .i64 d], .slice ad n cap] W fun e' w' => e' = .returned (.tuple #[.int .i64 i, .agg #[.int .i64 fn, .int .i64 fd], .int .i64 e]) ∧ Below W.heap.size W w'))
    (HR : Hid (∀ W, Below w.heap.size w W → Calls Try.prog 37 #[.agg #[.int .i64 a, .int .i64 b, .int .i64 d], .slice ad n cap] W fun e' w' => e' = .returned (.tuple #[.int .i64 i, .agg #[.int .i64 fn, .int .i64 fd], .int .i64 e]) ∧ Below W.heap.size W w'))
    (HV : Hid (PtsSay w (.slice ad n cap) B)) (HU : Hid (RptsSay w (.slice ad n cap) B)) :
    Calls Try.prog 6 #[.agg #[.int .i64 a, .int .i64 b, .int .i64 d], .slice ad n cap] w fun e w' => e = .returned (.bool true) ∧ Below w.heap.size w w' := by
  go_enter Try.func6, Try.ntmps6
  (go_wp2_with fail); refine calls_after (HW.out _ (by (repeat' (first | (with_reducible exact Below.refl _ _) | (with_reducible assumption) | (with_reducible refine Below.alloc ?_ ?_ _) | (with_reducible refine Below.drew ?_) | (with_reducible refine below_drewN ?_ _) | (with_reducible refine Below.setCell ?_ ?_ _) | (with_reducible refine below_after ?_ ?_ _) | (with_reducible refine below_set ?_) | (with_reducible refine After.size_le _ ?_) | (with_reducible refine size_alloc_le ?_) | (with_reducible refine size_set_le ?_) | (with_reducible refine size_drewN_le ?_) | go_size)))) ?_; intro x1; have hz_x1 := x1.out.size; (try simp only [World.size_alloc] at hz_x1); (try simp only [World.size_setCell] at hz_x1); have k0_x1 : w.heap.size < x1.w.heap.size := (by omega); have j0_x1 : w.heap.size < x1.w.heap.size + 1 := (by omega)
  (go_wp2_with fail); refine calls_after (HR.out _ (by (repeat' (first | (with_reducible exact Below.refl _ _) | (with_reducible assumption) | (with_reducible refine Below.alloc ?_ ?_ _) | (with_reducible refine Below.drew ?_) | (with_reducible refine below_drewN ?_ _) | (with_reducible refine Below.setCell ?_ ?_ _) | (with_reducible refine below_after ?_ ?_ _) | (with_reducible refine below_set ?_) | (with_reducible refine After.size_le _ ?_) | (with_reducible refine size_alloc_le ?_) | (with_reducible refine size_set_le ?_) | (with_reducible refine size_drewN_le ?_) | go_size)))) ?_; intro x2; have hz_x2 := x2.out.size; (try simp only [World.size_alloc] at hz_x2); (try simp only [World.size_setCell] at hz_x2); have k0_x2 : w.heap.size < x2.w.heap.size := (by omega); have j0_x2 : w.heap.size < x2.w.heap.size + 1 := (by omega); have k1_x2 : x1.w.heap.size < x2.w.heap.size := (by omega); have j1_x2 : x1.w.heap.size < x2.w.heap.size + 1 := (by omega)
  (go_wp2_with fail); refine calls_after (HV.out _ (by (repeat' (first | (with_reducible exact Below.refl _ _) | (with_reducible assumption) | (with_reducible refine Below.alloc ?_ ?_ _) | (with_reducible refine Below.drew ?_) | (with_reducible refine below_drewN ?_ _) | (with_reducible refine Below.setCell ?_ ?_ _) | (with_reducible refine below_after ?_ ?_ _) | (with_reducible refine below_set ?_) | (with_reducible refine After.size_le _ ?_) | (with_reducible refine size_alloc_le ?_) | (with_reducible refine size_set_le ?_) | (with_reducible refine size_drewN_le ?_) | go_size)))) ?_; intro x3; have hz_x3 := x3.out.size; (try simp only [World.size_alloc] at hz_x3); (try simp only [World.size_setCell] at hz_x3); have k0_x3 : w.heap.size < x3.w.heap.size := (by omega); have j0_x3 : w.heap.size < x3.w.heap.size + 1 := (by omega); have k1_x3 : x1.w.heap.size < x3.w.heap.size := (by omega); have j1_x3 : x1.w.heap.size < x3.w.heap.size + 1 := (by omega); have k2_x3 : x2.w.heap.size < x3.w.heap.size := (by omega); have j2_x3 : x2.w.heap.size < x3.w.heap.size + 1 := (by omega)
  (go_wp2_with fail); refine calls_after2 (HU.out _ (by (repeat' (first | (with_reducible exact Below.refl _ _) | (with_reducible assumption) | (with_reducible refine Below.alloc ?_ ?_ _) | (with_reducible refine Below.drew ?_) | (with_reducible refine below_drewN ?_ _) | (with_reducible refine Below.setCell ?_ ?_ _) | (with_reducible refine below_after ?_ ?_ _) | (with_reducible refine below_set ?_) | (with_reducible refine After.size_le _ ?_) | (with_reducible refine size_alloc_le ?_) | (with_reducible refine size_set_le ?_) | (with_reducible refine size_drewN_le ?_) | go_size)))) ?_; intro x4; have hz_x4 := x4.out.size; (try simp only [World.size_alloc] at hz_x4); (try simp only [World.size_setCell] at hz_x4); have k0_x4 : w.heap.size < x4.w.heap.size := (by omega); have j0_x4 : w.heap.size < x4.w.heap.size + 1 := (by omega); have k1_x4 : x1.w.heap.size < x4.w.heap.size := (by omega); have j1_x4 : x1.w.heap.size < x4.w.heap.size + 1 := (by omega); have k2_x4 : x2.w.heap.size < x4.w.heap.size := (by omega); have j2_x4 : x2.w.heap.size < x4.w.heap.size + 1 := (by omega)
  (go_wp2_with fail); refine calls_after2 (awake_any _) ?_; intro x5
  go_wp2
  go_ret
  exact ⟨rfl, by (repeat' (first | (with_reducible exact Below.refl _ _) | (with_reducible assumption) | (with_reducible refine Below.alloc ?_ ?_ _) | (with_reducible refine Below.drew ?_) | (with_reducible refine below_drewN ?_ _) | (with_reducible refine Below.setCell ?_ ?_ _) | (with_reducible refine below_after ?_ ?_ _) | (with_reducible refine below_set ?_) | (with_reducible refine After.size_le _ ?_) | (with_reducible refine size_alloc_le ?_) | (with_reducible refine size_set_le ?_) | (with_reducible refine size_drewN_le ?_) | go_size))⟩

theorem leanWorst_any (a b d : Int) (v : Value) (ps : List (Int × Int)) (w : World) (h : Pts w w.heap.size v ps) :
    Calls Try.prog 6 #[.agg #[.int .i64 a, .int .i64 b, .int .i64 d], v] w fun e w' => e = .returned (.bool true) ∧ Below w.heap.size w w' := by
  by_cases hl : ps.length ≤ 100
  · have hs := say_pts h hl
    have rs := rsay_pts h hl
    have on : ∀ {W : World} {c}, Below w.heap.size w W → PtsSay w v c → PtsSay W v c := fun hW hs W' hW' => hs W' (hW.trans (hW'.mono hW.size))
    have ron : ∀ {W : World} {c}, Below w.heap.size w W → RptsSay w v c → RptsSay W v c := fun hW hs W' hW' => hs W' (hW.trans (hW'.mono hW.size))
    by_cases hL : GoodLine a b d
    · by_cases hG : GoodPts ps
      · obtain ⟨bl, off, cap, rfl, hb, hc⟩ := pts_good h hG
        have HW : Hid (∀ W, Below w.heap.size w W → _) := fun W hW => worst_ok bl off cap (a, b, d) ps W (Nat.lt_of_lt_of_le hb hW.size) (cells_on hb hc hW) hL hG
        have HR : Hid (∀ W, Below w.heap.size w W → _) := fun W hW => rworst_ok bl off cap (a, b, d) ps W (Nat.lt_of_lt_of_le hb hW.size) (cells_on hb hc hW) hL hG
        exact leanWorst_walk a b d _ _ _ _ _ _ _ cap w hl HW HR hs rs
      · obtain ⟨ad, cap, rfl⟩ := pts_slice h
        rw [decide_eq_false hG] at hs rs
        exact leanWorst_walk a b d 0 0 0 1 false ad _ cap w hl (Lib.hid fun W hW => worst_pts a b d _ W hL (on hW hs)) (Lib.hid fun W hW => rworst_pts a b d _ W hL (ron hW rs)) hs rs
    · obtain ⟨ad, cap, rfl⟩ := pts_slice h
      exact leanWorst_walk a b d 0 0 0 1 _ ad _ cap w hl (Lib.hid fun W _ => worst_line a b d _ W hL) (Lib.hid fun W _ => rworst_line a b d _ W hL) hs rs
  · obtain ⟨ad, cap, rfl⟩ := pts_slice h
    exact leanWorst_long a b d ad ps.length cap w (by omega)
end Go.Proofs.Ytdhobjflfhijjaa
