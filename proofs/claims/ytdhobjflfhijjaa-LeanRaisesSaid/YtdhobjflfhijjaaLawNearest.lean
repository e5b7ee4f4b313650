/- LeanNearest: the law's walk. -/
import Derived.Test.YtdhobjflfhijjaaRnear
import Derived.Test.YtdhobjflfhijjaaLeastb
namespace Go.Proofs.Ytdhobjflfhijjaa
open Go.RowKit
attribute [local go_sem 10000] eql_line neq_line eql_ratio neq_ratio
attribute [local go_sem] After.cell After.frozen After.lt After.le After.ne After.ne' After.set_eq After.size_set After.lt_add eq3_self eq2_self

set_option maxRecDepth 100000 in
set_option maxHeartbeats 1000000 in
theorem leanNearest_long (ad : Option Addr) (n cap : Nat) (w : World) (hn : 100 < n) :
    Calls Try.prog 7 #[.slice ad n cap] w fun e w' => e = .returned (.bool true) ∧ Below w.heap.size w w' := by
  go_enter Try.func7, Try.ntmps7
  (go_wp2_with fail); refine calls_after (awake_any _) ?_; intro x1
  go_wp2
  go_ret
  exact ⟨rfl, by (repeat' (first | (with_reducible exact Below.refl _ _) | (with_reducible assumption) | (with_reducible refine Below.alloc ?_ ?_ _) | (with_reducible refine Below.drew ?_) | (with_reducible refine below_drewN ?_ _) | (with_reducible refine Below.setCell ?_ ?_ _) | (with_reducible refine below_after ?_ ?_ _) | (with_reducible refine below_set ?_) | (with_reducible refine After.size_le _ ?_) | (with_reducible refine size_alloc_le ?_) | (with_reducible refine size_set_le ?_) | (with_reducible refine size_drewN_le ?_) | go_size))⟩
set_option maxRecDepth 100000 in
set_option maxHeartbeats 1000000 in
theorem leanNearest_walk (A B D e bn bd : Int) (ad : Option Addr) (n cap : Nat) (w : World) (hn : n ≤ 100)
    (HN : Hid (∀ W, Below w.heap.size w W → Calls Try.prog 40 #[.slice ad n cap] W fun e' w' => e' = .returned (.tuple #[.agg #[.int .i64 A, .int .i64 B, .int .i64 D], .int .i64 e]) ∧ Below W.heap.size W w'))
    (HR : Hid (∀ W, Below w.heap.size w W → Calls Try.prog 41 #[.slice ad n cap] W fun e' w' => e' = .returned (.tuple #[.agg #[.int .i64 A, .int .i64 B, .int .i64 D], .int .i64 e]) ∧ Below W.heap.size W w'))
    (HB : Hid (∀ W, Below w.heap.size w W → Calls Try.prog 42 #[.slice ad n cap] W fun e' w' => e' = .returned (.tuple #[.agg #[.int .i64 bn, .int .i64 bd], .int .i64 e]) ∧ Below W.heap.size W w'))
    (HS : Hid (∀ W, Below w.heap.size w W → Calls Try.prog 43 #[.slice ad n cap] W fun e' w' => e' = .returned (.tuple #[.agg #[.int .i64 bn, .int .i64 bd], .int .i64 e]) ∧ Below W.heap.size W w')) :
    Calls Try.prog 7 #[.slice ad n cap] w fun e w' => e = .returned (.bool true) ∧ Below w.heap.size w w' := by
  go_enter Try.func7, Try.ntmps7
  (go_wp2_with fail); refine calls_after (HN.out _ (by (repeat' (first | (with_reducible exact Below.refl _ _) | (with_reducible assumption) | (with_reducible refine Below.alloc ?_ ?_ _) | (with_reducible refine Below.drew ?_) | (with_reducible refine below_drewN ?_ _) | (with_reducible refine Below.setCell ?_ ?_ _) | (with_reducible refine below_after ?_ ?_ _) | (with_reducible refine below_set ?_) | (with_reducible refine After.size_le _ ?_) | (with_reducible refine size_alloc_le ?_) | (with_reducible refine size_set_le ?_) | (with_reducible refine size_drewN_le ?_) | go_size)))) ?_; intro x1
  (go_wp2_with fail); refine calls_after (HR.out _ (by (repeat' (first | (with_reducible exact Below.refl _ _) | (with_reducible assumption) | (with_reducible refine Below.alloc ?_ ?_ _) | (with_reducible refine Below.drew ?_) | (with_reducible refine below_drewN ?_ _) | (with_reducible refine Below.setCell ?_ ?_ _) | (with_reducible refine below_after ?_ ?_ _) | (with_reducible refine below_set ?_) | (with_reducible refine After.size_le _ ?_) | (with_reducible refine size_alloc_le ?_) | (with_reducible refine size_set_le ?_) | (with_reducible refine size_drewN_le ?_) | go_size)))) ?_; intro x2; have hz_x2 := x2.out.size; (try simp only [World.size_alloc] at hz_x2); (try simp only [World.size_setCell] at hz_x2); have k0_x2 : x1.w.heap.size < x2.w.heap.size := (by omega); have j0_x2 : x1.w.heap.size < x2.w.heap.size + 1 := (by omega)
  (go_wp2_with fail); refine calls_after (HB.out _ (by (repeat' (first | (with_reducible exact Below.refl _ _) | (with_reducible assumption) | (with_reducible refine Below.alloc ?_ ?_ _) | (with_reducible refine Below.drew ?_) | (with_reducible refine below_drewN ?_ _) | (with_reducible refine Below.setCell ?_ ?_ _) | (with_reducible refine below_after ?_ ?_ _) | (with_reducible refine below_set ?_) | (with_reducible refine After.size_le _ ?_) | (with_reducible refine size_alloc_le ?_) | (with_reducible refine size_set_le ?_) | (with_reducible refine size_drewN_le ?_) | go_size)))) ?_; intro x3; have hz_x3 := x3.out.size; (try simp only [World.size_alloc] at hz_x3); (try simp only [World.size_setCell] at hz_x3); have k0_x3 : x1.w.heap.size < x3.w.heap.size := (by omega); have j0_x3 : x1.w.heap.size < x3.w.heap.size + 1 := (by omega); have k1_x3 : x2.w.heap.size < x3.w.heap.size := (by omega); have j1_x3 : x2.w.heap.size < x3.w.heap.size + 1 := (by omega)
  (go_wp2_with fail); refine calls_after (HS.out _ (by (repeat' (first | (with_reducible exact Below.refl _ _) | (with_reducible assumption) | (with_reducible refine Below.alloc ?_ ?_ _) | (with_reducible refine Below.drew ?_) | (with_reducible refine below_drewN ?_ _) | (with_reducible refine Below.setCell ?_ ?_ _) | (with_reducible refine below_after ?_ ?_ _) | (with_reducible refine below_set ?_) | (with_reducible refine After.size_le _ ?_) | (with_reducible refine size_alloc_le ?_) | (with_reducible refine size_set_le ?_) | (with_reducible refine size_drewN_le ?_) | go_size)))) ?_; intro x4; have hz_x4 := x4.out.size; (try simp only [World.size_alloc] at hz_x4); (try simp only [World.size_setCell] at hz_x4); have k0_x4 : x1.w.heap.size < x4.w.heap.size := (by omega); have j0_x4 : x1.w.heap.size < x4.w.heap.size + 1 := (by omega); have k1_x4 : x2.w.heap.size < x4.w.heap.size := (by omega); have j1_x4 : x2.w.heap.size < x4.w.heap.size + 1 := (by omega); have k2_x4 : x3.w.heap.size < x4.w.heap.size := (by omega); have j2_x4 : x3.w.heap.size < x4.w.heap.size + 1 := (by omega)
  (go_wp2_with fail); refine calls_after (awake_any _) ?_; intro x5
  go_wp2
  go_ret
  exact ⟨rfl, by (repeat' (first | (with_reducible exact Below.refl _ _) | (with_reducible assumption) | (with_reducible refine Below.alloc ?_ ?_ _) | (with_reducible refine Below.drew ?_) | (with_reducible refine below_drewN ?_ _) | (with_reducible refine Below.setCell ?_ ?_ _) | (with_reducible refine below_after ?_ ?_ _) | (with_reducible refine below_set ?_) | (with_reducible refine After.size_le _ ?_) | (with_reducible refine size_alloc_le ?_) | (with_reducible refine size_set_le ?_) | (with_reducible refine size_drewN_le ?_) | go_size))⟩

theorem leanNearest_any (v : Value) (ps : List (Int × Int)) (w : World) (h : Pts w w.heap.size v ps) :
    Calls Try.prog 7 #[v] w fun e w' => e = .returned (.bool true) ∧ Below w.heap.size w w' := by
  by_cases hl : ps.length ≤ 100
  · have hs := say_pts h hl
    have rs := rsay_pts h hl
    have on : ∀ {W : World} {c}, Below w.heap.size w W → PtsSay w v c → PtsSay W v c := fun hW hs W' hW' => hs W' (hW.trans (hW'.mono hW.size))
    have ron : ∀ {W : World} {c}, Below w.heap.size w W → RptsSay w v c → RptsSay W v c := fun hW hs W' hW' => hs W' (hW.trans (hW'.mono hW.size))
    by_cases hG : GoodPts ps
    · obtain ⟨bl, off, cap, rfl, hb, hc⟩ := pts_good h hG
      have HN : Hid (∀ W, Below w.heap.size w W → _) := fun W hW => nearest_any bl off cap ps W (Nat.lt_of_lt_of_le hb hW.size) (by omega) (cells_on hb hc hW)
      rw [(ne_mk hG).2.2.2] at HN
      have HR : Hid (∀ W, Below w.heap.size w W → _) := fun W hW => rnearest_ok bl off cap ps W (Nat.lt_of_lt_of_le hb hW.size) (cells_on hb hc hW) hG
      have HB : Hid (∀ W, Below w.heap.size w W → _) := fun W hW => bend_ok bl off cap ps W (Nat.lt_of_lt_of_le hb hW.size) (cells_on hb hc hW) hG
      have hm := woF_hi (neL ps) (ps := ps) hG.1
      rcases (show ps.length = 1 ∨ 2 ≤ ps.length by have := hG.1; omega) with h1 | h2
      · have HS : Hid (∀ W, Below w.heap.size w W → _) := fun W hW => rbend_one bl off cap ps W (Nat.lt_of_lt_of_le hb hW.size) (cells_on hb hc hW) hG h1
        have z : ratN (woF (neL ps) ps) (neL ps).2.2 = 0 ∧ ratD (woF (neL ps) ps) (neL ps).2.2 = 1 := by
          obtain ⟨e1, e2, e3⟩ := ne_single hG h1
          have e : neL ps = ((ps.getD 0 (0, 0)).2, 0, 1) := by unfold neL; rw [e1, e2, e3]
          have f : woF (neL ps) ps = 0 := by
            obtain ⟨⟨s, hs, e'⟩, _⟩ := hm
            obtain rfl : s = 0 := by omega
            rw [← e', e]
            unfold farV offV valV ptAt
            simp
          rw [f, e]
          unfold ratN ratD
          simp
        rw [z.1, z.2] at HB
        exact leanNearest_walk _ _ _ _ _ _ _ _ cap w hl HN HR HB HS
      · have HS : Hid (∀ W, Below w.heap.size w W → _) := fun W hW => rbend_two bl off cap ps W (Nat.lt_of_lt_of_le hb hW.size) (cells_on hb hc hW) hG h2
        obtain ⟨z1, z2⟩ := bend_one hG h2 hm
        change ratN (woF (neL ps) ps) (neL ps).2.2 = _ at z1
        change ratD (woF (neL ps) ps) (neL ps).2.2 = _ at z2
        rw [z1, z2] at HB
        exact leanNearest_walk _ _ _ _ _ _ _ _ cap w hl HN HR HB HS
    · obtain ⟨ad, cap, rfl⟩ := pts_slice h
      rw [decide_eq_false hG] at hs rs
      exact leanNearest_walk 0 0 0 1 0 0 ad _ cap w hl (Lib.hid fun W hW => nearest_badv ad _ cap W (on hW hs)) (Lib.hid fun W hW => rnearest_bad _ W (ron hW rs)) (Lib.hid fun W hW => bend_badv ad _ cap W (on hW hs)) (Lib.hid fun W hW => rbend_bad _ W (ron hW rs))
  · obtain ⟨ad, cap, rfl⟩ := pts_slice h
    exact leanNearest_long ad ps.length cap w (by omega)
end Go.Proofs.Ytdhobjflfhijjaa
