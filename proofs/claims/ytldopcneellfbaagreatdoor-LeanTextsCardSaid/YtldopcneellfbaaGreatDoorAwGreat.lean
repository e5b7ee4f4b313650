/- The greatest of the triples, by their bows; the first of several. -/
import Derived.Test.YtldopcneellfbaaGreatDoorAwNear
import Derived.Test.YtldopcneellfbaaGreatDoorAwCmp
import Derived.Test.YtldopcneellfbaaGreatDoorAwColl
namespace Go.Proofs.YtldopcneellfbaaGreatDoor.Aw
open Go.Proofs.YtldopcneellfbaaGreatDoor
open Go.RowKit
attribute [local go_sem] After.cell After.frozen After.lt After.le After.ne After.ne' After.set_eq After.size_set After.lt_add

/-- Which of two triples bends more. -/
def bowN (ps : List (Int × Int)) (x : Tri) : Int := (bul (ps.getD x.1 (0, 0)) (ps.getD x.2.1 (0, 0)) (ps.getD x.2.2 (0, 0))).natAbs
def bowD (ps : List (Int × Int)) (x : Tri) : Int := (ps.getD x.2.2 (0, 0)).1 - (ps.getD x.1 (0, 0)).1
def cmpB (ps : List (Int × Int)) (x y : Tri) : Int := cmpR (bowN ps x) (bowD ps x) (bowN ps y) (bowD ps y)
/-- A triple of indexes of points. -/
def TriOk (ps : List (Int × Int)) (x : Tri) : Prop := x.1 < ps.length ∧ x.2.1 < ps.length ∧ x.2.2 < ps.length
def AllIn (ps : List (Int × Int)) : Prop := ∀ i, i < ps.length → InPt (ps.getD i (0, 0)).1 (ps.getD i (0, 0)).2

theorem bow_tri (b off cap : Nat) (ps : List (Int × Int)) (x : Tri) (w : World) (hb : b < w.heap.size) (hlen : ps.length ≤ 1000)
    (hc : ∀ i, i < ps.length → w.cell? ⟨b, off + i * 2, none⟩ = some (.int .i64 (ps.getD i (0, 0)).1) ∧ w.cell? ⟨b, off + i * 2 + 1, none⟩ = some (.int .i64 (ps.getD i (0, 0)).2))
    (hx : TriOk ps x) (hA : AllIn ps) :
    Calls Tryz.prog 30 #[.slice (some ⟨b, off, none⟩) ps.length cap, .agg #[.int .i64 x.1, .int .i64 x.2.1, .int .i64 x.2.2]] w fun e w' => e = .returned (.agg #[.int .i64 (bowN ps x), .int .i64 (bowD ps x)]) ∧ Below w.heap.size w w' :=
  bow_any b off cap ps x.1 x.2.1 x.2.2 w hb hlen hc hx.1 hx.2.1 hx.2.2 (hA _ hx.1) (hA _ hx.2.1) (hA _ hx.2.2)

theorem bowN_in {ps : List (Int × Int)} {x : Tri} (hx : TriOk ps x) (hA : AllIn ps) : In64 (bowN ps x) ∧ In64 (bowD ps x) := by
  have h := bul_bd (hA _ hx.1) (hA _ hx.2.1) (hA _ hx.2.2)
  have h1 := hA _ hx.1
  have h2 := hA _ hx.2.2
  unfold InPt at h1 h2
  unfold In64 bowN bowD
  omega

set_option maxRecDepth 100000 in
set_option maxHeartbeats 400000 in
/-- The closure that compares two triples; it has captured the box of the points' slice. -/
theorem near1_any (b off cap Bx : Nat) (ps : List (Int × Int)) (x y : Tri) (w : World) (hb : b < w.heap.size) (hB : Bx < w.heap.size) (hlen : ps.length ≤ 1000) (hbx : w.cell? ⟨Bx, 0, none⟩ = some (.slice (some ⟨b, off, none⟩) ps.length cap))
    (hc : ∀ i, i < ps.length → w.cell? ⟨b, off + i * 2, none⟩ = some (.int .i64 (ps.getD i (0, 0)).1) ∧ w.cell? ⟨b, off + i * 2 + 1, none⟩ = some (.int .i64 (ps.getD i (0, 0)).2))
    (hx : TriOk ps x) (hy : TriOk ps y) (hA : AllIn ps) :
    Calls Tryz.prog 28 #[.agg #[.int .i64 x.1, .int .i64 x.2.1, .int .i64 x.2.2], .agg #[.int .i64 y.1, .int .i64 y.2.1, .int .i64 y.2.2], .pointer (some ⟨Bx, 0, none⟩)] w fun e w' => e = .returned (.int .i64 (cmpB ps x y)) ∧ Below w.heap.size w w' := by
  have HX : Hid (∀ W : World, Below w.heap.size w W → Calls Tryz.prog 30 #[.slice (some ⟨b, off, none⟩) ps.length cap, .agg #[.int .i64 x.1, .int .i64 x.2.1, .int .i64 x.2.2]] W fun e w' => e = .returned (.agg #[.int .i64 (bowN ps x), .int .i64 (bowD ps x)]) ∧ Below W.heap.size W w') := fun W hW =>
    bow_tri b off cap ps x W (Nat.lt_of_lt_of_le hb hW.size) hlen (fun i hi => ⟨(hW.cell (p := ⟨b, _, none⟩) hb).trans (hc i hi).1, (hW.cell (p := ⟨b, _, none⟩) hb).trans (hc i hi).2⟩) hx hA
  have HY : Hid (∀ W : World, Below w.heap.size w W → Calls Tryz.prog 30 #[.slice (some ⟨b, off, none⟩) ps.length cap, .agg #[.int .i64 y.1, .int .i64 y.2.1, .int .i64 y.2.2]] W fun e w' => e = .returned (.agg #[.int .i64 (bowN ps y), .int .i64 (bowD ps y)]) ∧ Below W.heap.size W w') := fun W hW =>
    bow_tri b off cap ps y W (Nat.lt_of_lt_of_le hb hW.size) hlen (fun i hi => ⟨(hW.cell (p := ⟨b, _, none⟩) hb).trans (hc i hi).1, (hW.cell (p := ⟨b, _, none⟩) hb).trans (hc i hi).2⟩) hy hA
  have HC := Lib.hid (fun W => compare_any (bowN ps x) (bowD ps x) (bowN ps y) (bowD ps y) W (bowN_in hx hA).1 (bowN_in hx hA).2 (bowN_in hy hA).1 (bowN_in hy hA).2)
  have HR : Hid (cmpR (bowN ps x) (bowD ps x) (bowN ps y) (bowD ps y) = cmpB ps x y) := rfl
  clear hc hx hy hA
  generalize ps.length = n at *
  generalize bowN ps x = nx at *
  generalize bowD ps x = dx at *
  generalize bowN ps y = ny at *
  generalize bowD ps y = dy at *
  obtain ⟨xi, xj, xk⟩ := x
  obtain ⟨yi, yj, yk⟩ := y
  dsimp only at *
  have hB1 : Bx < w.heap.size + 1 := by omega
  have hB2 : Bx < w.heap.size + 2 := by omega
  go_enter Tryz.func28, Tryz.ntmps28
  go_wp2
  refine wp_region_after (by kernel_rfl) (by kernel_rfl) ?_; (repeat (first | go_big_quiet_step ((first | (go_at_call 30; (first | (with_reducible refine quiet_after (HX.out _ ?_)) | (with_reducible refine quiet_after (HY.out _ ?_))); (repeat' (first | (with_reducible exact Below.refl _ _) | (with_reducible assumption) | (with_reducible refine Below.alloc ?_ ?_ _) | (with_reducible refine Below.drew ?_) | (with_reducible refine below_drewN ?_ _) | (with_reducible refine Below.setCell ?_ ?_ _) | (with_reducible refine below_after ?_ ?_ _) | (with_reducible refine below_set ?_) | (with_reducible refine After.size_le _ ?_) | (with_reducible refine size_alloc_le ?_) | (with_reducible refine size_set_le ?_) | (with_reducible refine size_drewN_le ?_) | go_size))) | (go_at_call 29; exact quiet_after (HC.out _)))) | (refine wpQuiet_step (fun K hK => ?_); go_simp; first | (refine hK _ ?_; clear hK K) | (apply Exists.intro; refine ⟨fun x => ?_, hK _ ?_⟩; (first | (go_at_call 30; (first | (with_reducible refine quiet_after (HX.out _ ?_)) | (with_reducible refine quiet_after (HY.out _ ?_))); (repeat' (first | (with_reducible exact Below.refl _ _) | (with_reducible assumption) | (with_reducible refine Below.alloc ?_ ?_ _) | (with_reducible refine Below.drew ?_) | (with_reducible refine below_drewN ?_ _) | (with_reducible refine Below.setCell ?_ ?_ _) | (with_reducible refine below_after ?_ ?_ _) | (with_reducible refine below_set ?_) | (with_reducible refine After.size_le _ ?_) | (with_reducible refine size_alloc_le ?_) | (with_reducible refine size_set_le ?_) | (with_reducible refine size_drewN_le ?_) | go_size))) | (go_at_call 29; exact quiet_after (HC.out _))); clear hK K)))); refine wpQuiet_nil ?_
  intro x1
  go_wp2
  rw [HR.out]
  go_ret
  exact ⟨rfl, by (repeat' (first | (with_reducible exact Below.refl _ _) | (with_reducible assumption) | (with_reducible refine Below.alloc ?_ ?_ _) | (with_reducible refine Below.drew ?_) | (with_reducible refine below_drewN ?_ _) | (with_reducible refine Below.setCell ?_ ?_ _) | (with_reducible refine below_after ?_ ?_ _) | (with_reducible refine below_set ?_) | (with_reducible refine After.size_le _ ?_) | (with_reducible refine size_alloc_le ?_) | (with_reducible refine size_set_le ?_) | (with_reducible refine size_drewN_le ?_) | go_size))⟩
end Go.Proofs.YtldopcneellfbaaGreatDoor.Aw
