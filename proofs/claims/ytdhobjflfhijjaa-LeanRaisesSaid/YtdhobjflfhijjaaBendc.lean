/- The greatest distance of the nearest line, as the program finds it. -/
import Derived.Test.YtdhobjflfhijjaaWorst
import Derived.Test.YtdhobjflfhijjaaLMath
import Derived.Test.YtdhobjflfhijjaaBend
namespace Go.Proofs.Ytdhobjflfhijjaa
open Go.RowKit
attribute [local go_sem] After.cell After.frozen After.lt After.le After.ne After.ne' After.set_eq After.size_set After.lt_add

set_option maxRecDepth 100000 in
set_option maxHeartbeats 400000 in
theorem nearest_badv (a : Option Addr) (n cap : Nat) (w : World) (hv : PtsSay w (.slice a n cap) false) :
    Calls Try.prog 40 #[.slice a n cap] w fun e w' => e = .returned (.tuple #[.agg #[.int .i64 0, .int .i64 0, .int .i64 0], .int .i64 1]) ∧ Below w.heap.size w w' := by
  have HV : Hid (∀ W, Below w.heap.size w W → _) := hv
  clear hv
  go_enter Try.func40, Try.ntmps40
  go_wp2_with fail
  refine calls_after (HV.out _ (by (repeat' (first | (with_reducible exact Below.refl _ _) | (with_reducible assumption) | (with_reducible refine Below.alloc ?_ ?_ _) | (with_reducible refine Below.drew ?_) | (with_reducible refine below_drewN ?_ _) | (with_reducible refine Below.setCell ?_ ?_ _) | (with_reducible refine below_after ?_ ?_ _) | (with_reducible refine below_set ?_) | (with_reducible refine After.size_le _ ?_) | (with_reducible refine size_alloc_le ?_) | (with_reducible refine size_set_le ?_) | (with_reducible refine size_drewN_le ?_) | go_size)))) ?_
  intro x1
  go_wp2_with fail
  go_returns
  exact ⟨rfl, by (repeat' (first | (with_reducible exact Below.refl _ _) | (with_reducible assumption) | (with_reducible refine Below.alloc ?_ ?_ _) | (with_reducible refine Below.drew ?_) | (with_reducible refine below_drewN ?_ _) | (with_reducible refine Below.setCell ?_ ?_ _) | (with_reducible refine below_after ?_ ?_ _) | (with_reducible refine below_set ?_) | (with_reducible refine After.size_le _ ?_) | (with_reducible refine size_alloc_le ?_) | (with_reducible refine size_set_le ?_) | (with_reducible refine size_drewN_le ?_) | go_size))⟩
set_option maxRecDepth 100000 in
set_option maxHeartbeats 400000 in
theorem bend_badv (a : Option Addr) (n cap : Nat) (w : World) (hv : PtsSay w (.slice a n cap) false) :
    Calls Try.prog 42 #[.slice a n cap] w fun e w' => e = .returned (.tuple #[.agg #[.int .i64 0, .int .i64 0], .int .i64 1]) ∧ Below w.heap.size w w' := by
  have HN : Hid (∀ W, Below w.heap.size w W → Calls Try.prog 40 #[.slice a n cap] W fun e w' => e = .returned (.tuple #[.agg #[.int .i64 0, .int .i64 0, .int .i64 0], .int .i64 1]) ∧ Below W.heap.size W w') := fun W hW => nearest_badv a n cap W (fun W' hW' => hv W' (hW.trans (hW'.mono hW.size)))
  clear hv
  go_enter Try.func42, Try.ntmps42
  go_wp2_with fail
  refine calls_after (HN.out _ (by (repeat' (first | (with_reducible exact Below.refl _ _) | (with_reducible assumption) | (with_reducible refine Below.alloc ?_ ?_ _) | (with_reducible refine Below.drew ?_) | (with_reducible refine below_drewN ?_ _) | (with_reducible refine Below.setCell ?_ ?_ _) | (with_reducible refine below_after ?_ ?_ _) | (with_reducible refine below_set ?_) | (with_reducible refine After.size_le _ ?_) | (with_reducible refine size_alloc_le ?_) | (with_reducible refine size_set_le ?_) | (with_reducible refine size_drewN_le ?_) | go_size)))) ?_
  intro x1
  go_wp2_with fail
  go_returns
  exact ⟨rfl, by (repeat' (first | (with_reducible exact Below.refl _ _) | (with_reducible assumption) | (with_reducible refine Below.alloc ?_ ?_ _) | (with_reducible refine Below.drew ?_) | (with_reducible refine below_drewN ?_ _) | (with_reducible refine Below.setCell ?_ ?_ _) | (with_reducible refine below_after ?_ ?_ _) | (with_reducible refine below_set ?_) | (with_reducible refine After.size_le _ ?_) | (with_reducible refine size_alloc_le ?_) | (with_reducible refine size_set_le ?_) | (with_reducible refine size_drewN_le ?_) | go_size))⟩

/-- The nearest line. -/
def neL (ps : List (Int × Int)) : Int × Int × Int := (neA ps, neB ps, neD ps)
theorem neL_good {ps : List (Int × Int)} (hG : GoodPts ps) : GoodLine (neL ps).1 (neL ps).2.1 (neL ps).2.2 := by
  obtain ⟨e1, e2, e3, _⟩ := ne_mk hG
  show GoodLine (neA ps) (neB ps) (neD ps)
  rw [e1, e2, e3]
  exact (mk_facts (nl_in hG)).good

set_option maxRecDepth 100000 in
set_option maxHeartbeats 1000000 in
theorem bend_ok (b off cap : Nat) (ps : List (Int × Int)) (w : World) (hb : b < w.heap.size)
    (hc : ∀ i, i < ps.length → w.cell? ⟨b, off + i * 2, none⟩ = some (.int .i64 (ps.getD i (0, 0)).1) ∧ w.cell? ⟨b, off + i * 2 + 1, none⟩ = some (.int .i64 (ps.getD i (0, 0)).2)) (hG : GoodPts ps) :
    Calls Try.prog 42 #[.slice (some ⟨b, off, none⟩) ps.length cap] w fun e w' => e = .returned (.tuple #[.agg #[.int .i64 (ratN (woF (neL ps) ps) (neL ps).2.2), .int .i64 (ratD (woF (neL ps) ps) (neL ps).2.2)], .int .i64 0]) ∧ Below w.heap.size w w' := by
  have hl40 := hG.2.1
  have HN : Hid (∀ W, Below w.heap.size w W → _) := fun W hW => nearest_any b off cap ps W (Nat.lt_of_lt_of_le hb hW.size) (by omega) (cells_on hb hc hW)
  rw [(ne_mk hG).2.2.2] at HN
  have HW : Hid (∀ W, Below w.heap.size w W → _) := fun W hW => worst_ok b off cap (neL ps) ps W (Nat.lt_of_lt_of_le hb hW.size) (cells_on hb hc hW) (neL_good hG) hG
  generalize ratN (woF (neL ps) ps) (neL ps).2.2 = rn at *
  generalize ratD (woF (neL ps) ps) (neL ps).2.2 = rd at *
  generalize worI (neL ps) ps = k at *
  unfold neL at HW
  clear hc hG
  dsimp only at HW
  generalize neA ps = A at *
  generalize neB ps = B at *
  generalize neD ps = D at *
  go_enter Try.func42, Try.ntmps42
  (go_wp2_with fail); refine calls_after (HN.out _ (by (repeat' (first | (with_reducible exact Below.refl _ _) | (with_reducible assumption) | (with_reducible refine Below.alloc ?_ ?_ _) | (with_reducible refine Below.drew ?_) | (with_reducible refine below_drewN ?_ _) | (with_reducible refine Below.setCell ?_ ?_ _) | (with_reducible refine below_after ?_ ?_ _) | (with_reducible refine below_set ?_) | (with_reducible refine After.size_le _ ?_) | (with_reducible refine size_alloc_le ?_) | (with_reducible refine size_set_le ?_) | (with_reducible refine size_drewN_le ?_) | go_size)))) ?_; intro x1; have hz_x1 := x1.out.size; (try simp only [World.size_alloc] at hz_x1); (try simp only [World.size_setCell] at hz_x1); have k0_x1 : w.heap.size < x1.w.heap.size := (by omega); have j0_x1 : w.heap.size < x1.w.heap.size + 1 := (by omega)
  (go_wp2_with fail); refine calls_after (HW.out _ (by (repeat' (first | (with_reducible exact Below.refl _ _) | (with_reducible assumption) | (with_reducible refine Below.alloc ?_ ?_ _) | (with_reducible refine Below.drew ?_) | (with_reducible refine below_drewN ?_ _) | (with_reducible refine Below.setCell ?_ ?_ _) | (with_reducible refine below_after ?_ ?_ _) | (with_reducible refine below_set ?_) | (with_reducible refine After.size_le _ ?_) | (with_reducible refine size_alloc_le ?_) | (with_reducible refine size_set_le ?_) | (with_reducible refine size_drewN_le ?_) | go_size)))) ?_; intro x2; have hz_x2 := x2.out.size; (try simp only [World.size_alloc] at hz_x2); (try simp only [World.size_setCell] at hz_x2); have k0_x2 : w.heap.size < x2.w.heap.size := (by omega); have j0_x2 : w.heap.size < x2.w.heap.size + 1 := (by omega); have k1_x2 : x1.w.heap.size < x2.w.heap.size := (by omega); have j1_x2 : x1.w.heap.size < x2.w.heap.size + 1 := (by omega)
  go_wp2_with fail
  have r0 : x2.w.cell? ⟨w.heap.size, 0, none⟩ = some (.int .i64 0) := (x2.cell _ (by simpa using j0_x1)).trans (keep_alloc ((x1.cell _ (by simp)).trans (by simp [go_sem])))
  have r1 : x2.w.cell? ⟨w.heap.size, 1, none⟩ = some (.int .i64 0) := (x2.cell _ (by simpa using j0_x1)).trans (keep_alloc ((x1.cell _ (by simp)).trans (by simp [go_sem])))
  obtain ⟨w0, w1⟩ := x2.set2 (.int .i64 rn) (.int .i64 rd) r0 r1
  refine bodyPost_ret (v := .tuple #[.agg #[.int .i64 rn, .int .i64 rd], .int .i64 0]) (by simp [results, Try.results42, go_sem, keep_alloc w0, keep_alloc w1]) rfl ⟨rfl, ?_⟩
  (repeat' (first | (with_reducible exact Below.refl _ _) | (with_reducible assumption) | (with_reducible refine Below.alloc ?_ ?_ _) | (with_reducible refine Below.drew ?_) | (with_reducible refine below_drewN ?_ _) | (with_reducible refine Below.setCell ?_ ?_ _) | (with_reducible refine below_after ?_ ?_ _) | (with_reducible refine below_set ?_) | (with_reducible refine After.size_le _ ?_) | (with_reducible refine size_alloc_le ?_) | (with_reducible refine size_set_le ?_) | (with_reducible refine size_drewN_le ?_) | go_size))
end Go.Proofs.Ytdhobjflfhijjaa
