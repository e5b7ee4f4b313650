/- bedInWind of a bed that is not there; Arm, Closed and Holds of it. -/
import Derived.Test.YtplhbklfaokjbaaDoorArmp
import Derived.Deep.DeepCutAuto
namespace Go.Proofs.YtplhbklfaokjbaaDoor
open Go.RowKit

set_option maxRecDepth 100000 in
set_option maxHeartbeats 4000000 in
theorem bedInWind_err (a : Option Addr) (n cap : Nat) (i p s e : Int) (w : World) (hB : BSay w (.slice a n cap) i zbed e) (he : (e == 0) = false) :
    Calls Tryd.prog 62 #[.slice a n cap, .int .i64 i, .int .i64 p, .int .i64 s] w fun r w' => r = .returned (.tuple #[zbed.val, .int .i64 e]) ∧ Below w.heap.size w w' := by
  have HB : Hid (∀ W, Below w.heap.size w W → _) := hB
  clear hB
  have ez : zbed.val = .agg #[.int .i64 0, .int .i64 0, .int .i64 0, .int .i64 0, .int .i64 0, .int .i64 0, .int .i64 0, .int .i64 0, .int .i64 0, .int .i64 0, .int .i64 0, .int .i64 0] := rfl
  rw [ez] at HB
  clear ez
  go_enter Tryd.func62, Tryd.ntmps62
  go_wp2_with fail
  refine (HB.out _ (by (repeat' (first | (with_reducible exact Below.refl _ _) | (with_reducible assumption) | (with_reducible refine Below.alloc ?_ ?_ _) | (with_reducible refine Below.drew ?_) | (with_reducible refine below_drewN ?_ _) | (with_reducible refine Below.setCell ?_ ?_ _) | (with_reducible refine below_after ?_ ?_ _) | (with_reducible refine below_set ?_) | (with_reducible refine After.size_le _ ?_) | (with_reducible refine size_alloc_le ?_) | (with_reducible refine size_set_le ?_) | (with_reducible refine size_drewN_le ?_) | go_size)))).mono ?_
  rintro r w1 ⟨rfl, hb⟩
  have q0 : BedCells w1 w.heap.size zbed := (zero_cells _ _ (heap_alloc_new w _)).fr (M := fun _ => False) (fr_below hb) id
  have hb2 : Below w.heap.size w w1 := ((Below.refl _ w).alloc (Nat.le_refl _) _).trans (hb.mono (by simp))
  have hs1 := hb.size
  rw [World.size_alloc] at hs1
  clear hb
  go_upto_region 2 with (fail)
  have nb := new_bed w1 zbed
  have q1 := q0.fr (M := fun _ => False) ((Fr.refl w1).alloc (.cells #[.int .i64 0, .int .i64 0, .int .i64 0, .int .i64 0, .int .i64 0, .int .i64 0, .int .i64 0, .int .i64 0, .int .i64 0, .int .i64 0, .int .i64 0, .int .i64 0] 64)) id
  have hb3 := hb2.alloc hb2.size (.cells #[.int .i64 0, .int .i64 0, .int .i64 0, .int .i64 0, .int .i64 0, .int .i64 0, .int .i64 0, .int .i64 0, .int .i64 0, .int .i64 0, .int .i64 0, .int .i64 0] 64)
  obtain ⟨V, hV⟩ : ∃ V, w1.alloc (.cells #[.int .i64 0, .int .i64 0, .int .i64 0, .int .i64 0, .int .i64 0, .int .i64 0, .int .i64 0, .int .i64 0, .int .i64 0, .int .i64 0, .int .i64 0, .int .i64 0] 64) = V := ⟨_, rfl⟩
  rw [hV] at q1 hb3 ⊢
  have nb' : BedCells V w1.heap.size zbed := by rw [← hV]; exact nb
  clear hV hb2 q0 nb
  obtain ⟨X, hX, x1, x2⟩ := bed_put zbed q1 hb3
  clear hb3
  obtain ⟨z0, z1, z2, z3, z4, z5, z6, z7, z8, z9, z10, z11, zf⟩ := q1
  obtain ⟨c0, c1, c2, c3, c4, c5, c6, c7, c8, c9, c10, c11, cf⟩ := nb'
  simp only [zbed] at z0 z1 z2 z3 z4 z5 z6 z7 z8 z9 z10 z11 c0 c1 c2 c3 c4 c5 c6 c7 c8 c9 c10 c11
  have HX := Lib.hid hX
  clear hX
  go_wp2_with fail
  have hX := HX.out
  unfold setBed zbed at hX
  dsimp only at hX
  rw [hX]
  exact bodyPost_ret (one_out x1) rfl ⟨rfl, x2⟩
end Go.Proofs.YtplhbklfaokjbaaDoor
