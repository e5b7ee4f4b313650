/- The nearest line as the program finds it. -/
import Derived.Test.YtldopcneellfbaaGreatDoorAwBow
import Derived.Test.YtldopcneellfbaaGreatDoorAwLineb
namespace Go.Proofs.YtldopcneellfbaaGreatDoor.Aw
open Go.Proofs.YtldopcneellfbaaGreatDoor
open Go.RowKit
attribute [local go_sem] After.cell After.frozen After.lt After.le After.ne After.ne' After.set_eq After.size_set After.lt_add

/-- The numbers of the line half way between the middle point and the line through the outer two, before they are divided. -/
def notA (p q r : Int × Int) : Int := 2 * (p.2 * (r.1 - p.1) - p.1 * (r.2 - p.2)) + bul p q r
def notB (p r : Int × Int) : Int := 2 * (r.2 - p.2)
def notD (p r : Int × Int) : Int := 2 * (r.1 - p.1)

set_option maxRecDepth 100000 in
set_option maxHeartbeats 400000 in
theorem nearestOfThree_any (p q r : Int × Int) (w : World) (hp : InPt p.1 p.2) (hq : InPt q.1 q.2) (hr : InPt r.1 r.2) :
    Calls Tryz.prog 31 #[.agg #[.int .i64 p.1, .int .i64 p.2], .agg #[.int .i64 q.1, .int .i64 q.2], .agg #[.int .i64 r.1, .int .i64 r.2]] w fun e w' => e = .returned (.tuple #[.agg #[.int .i64 (mkA (notA p q r) (notB p r) (notD p r)), .int .i64 (mkB (notA p q r) (notB p r) (notD p r)), .int .i64 (mkD (notA p q r) (notB p r) (notD p r))], .int .i64 (mkE (notA p q r) (notB p r) (notD p r))]) ∧ Below w.heap.size w w' := by
  have HC := Lib.hid (fun w => bulge_any p q r w hp hq hr)
  have hb := bul_bd hp hq hr
  have HM := Lib.hid (fun w => make_any (notA p q r) (notB p r) (notD p r) w)
  unfold notA notB notD at *
  generalize bul p q r = B at *
  obtain ⟨ph, px⟩ := p
  obtain ⟨qh, qx⟩ := q
  obtain ⟨rh, rx⟩ := r
  unfold InPt at hp hq hr
  dsimp only at *
  obtain ⟨a1, a2, a3, a4⟩ := hp
  obtain ⟨c1, c2, c3, c4⟩ := hr
  obtain ⟨e1, e2⟩ := hb
  clear hq
  have m1 := prod_bd (a := px) (b := rh - ph) (A := 10000) (B := 200000) (by omega) (by omega) (by omega) (by omega)
  have m2 := prod_bd (a := ph) (b := rx - px) (A := 200000) (B := 20000) (by omega) (by omega) (by omega) (by omega)
  obtain ⟨m3, m4⟩ := m1
  obtain ⟨m5, m6⟩ := m2
  go_enter Tryz.func31, Tryz.ntmps31
  go_wp2
  go_quiet (fail)
  go_wp2
  refine wp_region_after_tail 22 (by kernel_rfl) (by kernel_rfl) ?_; simp only [List.take_succ_cons, List.take_zero, List.drop_succ_cons, List.drop_zero]; (repeat (first | go_big_quiet_step ((first | (go_at_call 53; exact quiet_after (HC.out _)) | (go_at_call 23; exact quiet_after (HM.out _)))) | (refine wpQuiet_step (fun K hK => ?_); go_simp; first | (refine hK _ ?_; clear hK K) | (apply Exists.intro; refine ⟨fun x => ?_, hK _ ?_⟩; (first | (go_at_call 53; exact quiet_after (HC.out _)) | (go_at_call 23; exact quiet_after (HM.out _))); clear hK K)))); refine wpQuiet_nil ?_
  intro x
  go_wp2
  go_returns
  exact ⟨rfl, by (repeat' (first | (with_reducible exact Below.refl _ _) | (with_reducible assumption) | (with_reducible refine Below.alloc ?_ ?_ _) | (with_reducible refine Below.drew ?_) | (with_reducible refine below_drewN ?_ _) | (with_reducible refine Below.setCell ?_ ?_ _) | (with_reducible refine below_after ?_ ?_ _) | (with_reducible refine below_set ?_) | (with_reducible refine After.size_le _ ?_) | (with_reducible refine size_alloc_le ?_) | (with_reducible refine size_set_le ?_) | (with_reducible refine size_drewN_le ?_) | go_size))⟩
end Go.Proofs.YtldopcneellfbaaGreatDoor.Aw
