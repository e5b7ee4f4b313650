/- The arm of a bed in the reference. -/
import Derived.Test.YtplhbklfaokjbaaDoorCsay

namespace Go.Proofs.YtplhbklfaokjbaaDoor
open Go.RowKit
attribute [local go_sem] After.cell After.frozen After.lt After.le After.ne After.ne' After.set_eq After.size_set After.lt_add

set_option maxRecDepth 100000 in
set_option maxHeartbeats 4000000 in
theorem rarm_any (b off cap n k : Nat) (p : Int) (s : Nat) (bv : BedV) (w : World) (hk : k < n) (_hn : n ≤ 60) (hb : b < w.heap.size) (hs : s < 4) (h0 : 0 ≤ p) (h1 : p ≤ 10000) (hI : InB bv)
    (hc : ∀ W, Below w.heap.size w W → W.cell? ⟨b, off + k * 6 + 4, none⟩ = some (.int .i64 (bv.c 4)) ∧ W.cell? ⟨b, off + k * 6 + 5, none⟩ = some (.int .i64 (bv.c 5)))
    (hO : OSay w (.slice (some ⟨b, off, none⟩) n cap) (k : Nat) bv) :
    Calls Tryd.prog 65 #[.slice (some ⟨b, off, none⟩) n cap, .int .i64 (k : Nat), .int .i64 p, .int .i64 s] w fun e w' => e = .returned (.tuple #[.int .i64 (amE bv p s), .int .i64 (amN bv p s), .int .i64 (9810000 * bv.wt)]) ∧ Below w.heap.size w w' := by
  have HO : Hid (∀ W, Below w.heap.size w W → _) := hO
  have HC := Lib.hid hc
  clear hc hO
  simp only [abV] at HO
  obtain ⟨⟨m1, m2⟩, ⟨m3, m4⟩, ⟨m5, m6⟩, ⟨m7, m8⟩, ⟨m9, m10⟩, _, _, _, ⟨m17, m18⟩, m19, m20⟩ := am_bd s hI h0 h1
  obtain ⟨b1, b2, b3, b4, b5, b6, b7, b8, b9, b10, b11, b12⟩ := hI
  obtain ⟨g1, g2⟩ := prod_bd (a := p) (b := bv.pu) (A := 10000) (B := 145200000000000) (by omega) (by omega) (by omega) (by omega)
  simp only [Int.reduceMul, Int.reduceNeg] at g1 g2
  have c4 : bv.c 4 * bv.wt = bv.wt * bv.c 4 := Int.mul_comm ..
  have c5 : bv.c 5 * bv.wt = bv.wt * bv.c 5 := Int.mul_comm ..
  have d1 : ((k : Nat) : Int) < (n : Int) := by omega
  have key : Hid (∀ E N : Int, (E = (if s = 0 then (bv.ea - bv.c 4 * bv.wt) * 9810000 - p * bv.pu else if s = 2 then (bv.ea - bv.c 4 * bv.wt) * 9810000 + p * bv.pu else (bv.ea - bv.c 4 * bv.wt) * 9810000)) →
      (N = (if s = 1 then (bv.no - bv.c 5 * bv.wt) * 9810000 - p * bv.pu else if s = 3 then (bv.no - bv.c 5 * bv.wt) * 9810000 + p * bv.pu else (bv.no - bv.c 5 * bv.wt) * 9810000)) → E = amE bv p s ∧ N = amN bv p s) := by
    intro E N hE hN
    rw [hE, hN]
    unfold amE amN awE awN
    rw [c4, c5]
    rcases (show s = 0 ∨ s = 1 ∨ s = 2 ∨ s = 3 by omega) with rfl | rfl | rfl | rfl <;> simp [Int.neg_mul] <;> omega
  have k1 : -300000000000 ≤ bv.c 4 * bv.wt ∧ bv.c 4 * bv.wt ≤ 300000000000 := by omega
  have k2 : -300000000000 ≤ bv.c 5 * bv.wt ∧ bv.c 5 * bv.wt ≤ 300000000000 := by omega
  obtain ⟨k1, k1'⟩ := k1
  obtain ⟨k2, k2'⟩ := k2
  have k3 : -600000000000 ≤ bv.ea - bv.c 4 * bv.wt ∧ bv.ea - bv.c 4 * bv.wt ≤ 600000000000 := by omega
  have k4 : -600000000000 ≤ bv.no - bv.c 5 * bv.wt ∧ bv.no - bv.c 5 * bv.wt ≤ 600000000000 := by omega
  obtain ⟨k3, k3'⟩ := k3
  obtain ⟨k4, k4'⟩ := k4
  clear m1 m2 m3 m4 m5 m6 m7 m8 m9 m10 m17 m18 m19 m20 c4 c5
  have HR : Hid (∀ E N : Int, (E = (if s = 0 then (bv.ea - bv.c 4 * bv.wt) * 9810000 - p * bv.pu else if s = 2 then (bv.ea - bv.c 4 * bv.wt) * 9810000 + p * bv.pu else (bv.ea - bv.c 4 * bv.wt) * 9810000)) →
      (N = (if s = 1 then (bv.no - bv.c 5 * bv.wt) * 9810000 - p * bv.pu else if s = 3 then (bv.no - bv.c 5 * bv.wt) * 9810000 + p * bv.pu else (bv.no - bv.c 5 * bv.wt) * 9810000)) →
      Ending.returned (.tuple #[.int .i64 E, .int .i64 N, .int .i64 (9810000 * bv.wt)]) = .returned (.tuple #[.int .i64 (amE bv p s), .int .i64 (amN bv p s), .int .i64 (9810000 * bv.wt)])) := fun E N hE hN => by
    obtain ⟨rfl, rfl⟩ := key.out E N hE hN
    rfl
  clear key
  generalize amE bv p s = RE at *
  generalize amN bv p s = RN at *
  generalize bv.c 4 = e4 at *
  generalize bv.c 5 = e5 at *
  generalize bv.wt = T at *
  generalize bv.ea = xe at *
  generalize bv.no = xn at *
  generalize bv.pu = xp at *
  rcases (show s = 0 ∨ s = 1 ∨ s = 2 ∨ s = 3 by omega) with rfl | rfl | rfl | rfl
  all_goals
    go_enter Tryd.func65, Tryd.ntmps65
    go_wp2_with fail
    refine calls_after (HO.out _ (by (repeat' (first | (with_reducible exact Below.refl _ _) | (with_reducible assumption) | (with_reducible refine Below.alloc ?_ ?_ _) | (with_reducible refine Below.drew ?_) | (with_reducible refine below_drewN ?_ _) | (with_reducible refine Below.setCell ?_ ?_ _) | (with_reducible refine below_after ?_ ?_ _) | (with_reducible refine below_set ?_) | (with_reducible refine After.size_le _ ?_) | (with_reducible refine size_alloc_le ?_) | (with_reducible refine size_set_le ?_) | (with_reducible refine size_drewN_le ?_) | go_size)))) ?_
    intro x1
    have hbx : b < x1.w.heap.size := Nat.lt_of_lt_of_le hb x1.out.size
    have hbx' : b < x1.w.heap.size + 1 := by omega
    have n1 : b ≠ x1.w.heap.size := by omega
    obtain ⟨c4, c5⟩ := HC.out w (Below.refl _ w)
    go_wp2_with fail
    go_quiet (fail)
    go_wp2_with fail
    go_quiet (fail)
    go_wp2_with fail
    go_quiet (fail)
    go_wp2
    go_returns
    exact ⟨HR.out _ _ (by simp) (by simp), by (repeat' (first | (with_reducible exact Below.refl _ _) | (with_reducible assumption) | (with_reducible refine Below.alloc ?_ ?_ _) | (with_reducible refine Below.drew ?_) | (with_reducible refine below_drewN ?_ _) | (with_reducible refine Below.setCell ?_ ?_ _) | (with_reducible refine below_after ?_ ?_ _) | (with_reducible refine below_set ?_) | (with_reducible refine After.size_le _ ?_) | (with_reducible refine size_alloc_le ?_) | (with_reducible refine size_set_le ?_) | (with_reducible refine size_drewN_le ?_) | go_size))⟩
end Go.Proofs.YtplhbklfaokjbaaDoor
