/- Whether a bed is closed, and whether it holds, in the reference. -/
import Derived.Test.YtplhbklfaokjbaaDoorRwide
import Derived.Test.YtplhbklfaokjbaaDoorRarm
namespace Go.Proofs.YtplhbklfaokjbaaDoor
open Go.RowKit
attribute [local go_sem] After.cell After.frozen After.lt After.le After.ne After.ne' After.set_eq After.size_set After.lt_add

/-- A course's cells in every later world. -/
def KSay (w : World) (b off k : Nat) (F : Nat → Int) : Prop := ∀ W, Below w.heap.size w W → W.cell? ⟨b, off + k * 6, none⟩ = some (.int .i64 (F 0)) ∧ W.cell? ⟨b, off + k * 6 + 1, none⟩ = some (.int .i64 (F 1)) ∧ W.cell? ⟨b, off + k * 6 + 2, none⟩ = some (.int .i64 (F 2)) ∧ W.cell? ⟨b, off + k * 6 + 3, none⟩ = some (.int .i64 (F 3)) ∧ W.cell? ⟨b, off + k * 6 + 4, none⟩ = some (.int .i64 (F 4)) ∧ W.cell? ⟨b, off + k * 6 + 5, none⟩ = some (.int .i64 (F 5))
/-- What the reference's arm answers in every later world. -/
def RSay (w : World) (v : Value) (k p s : Int) (E N D : Int) : Prop := ∀ W, Below w.heap.size w W → Calls Tryd.prog 65 #[v, .int .i64 k, .int .i64 p, .int .i64 s] W fun e w' => e = .returned (.tuple #[.int .i64 E, .int .i64 N, .int .i64 D]) ∧ Below W.heap.size W w'

set_option maxRecDepth 100000 in
set_option maxHeartbeats 4000000 in
theorem rclosed_any (b off cap n k : Nat) (p : Int) (s : Nat) (bv : BedV) (w : World) (hk : k < n) (_hn : n ≤ 60) (hb : b < w.heap.size) (h0 : 0 ≤ p) (h1 : p ≤ 10000) (hI : InB bv) (hO : InO bv)
    (hc : KSay w b off k bv.c) (hR : RSay w (.slice (some ⟨b, off, none⟩) n cap) (k : Nat) p s (amE bv p s) (amN bv p s) (9810000 * bv.wt)) :
    Calls Tryd.prog 67 #[.slice (some ⟨b, off, none⟩) n cap, .int .i64 (k : Nat), .int .i64 p, .int .i64 s] w fun e w' => e = .returned (.bool (clB bv p s)) ∧ Below w.heap.size w w' := by
  have HR : Hid (∀ W, Below w.heap.size w W → _) := hR
  have HC : Hid (∀ W, Below w.heap.size w W → _) := hc
  clear hc hR
  obtain ⟨-, -, -, -, -, -, -, -, ⟨m1, m2⟩, m3, m4⟩ := am_bd s hI h0 h1
  obtain ⟨i1, i2, -⟩ := hI
  obtain ⟨o1, o2, o3, o4⟩ := hO
  unfold clB
  generalize amE bv p s = E at *
  generalize amN bv p s = N at *
  have HA1 := Lib.hid (fun W => rsize_any E W (by omega) (by omega))
  have HA2 := Lib.hid (fun W => rsize_any N W (by omega) (by omega))
  obtain ⟨A, hA⟩ : ∃ A, E.natAbs = A := ⟨_, rfl⟩
  obtain ⟨B, hB⟩ : ∃ B, N.natAbs = B := ⟨_, rfl⟩
  have a1 : A ≤ 7400000000000000000 := by omega
  have a2 : B ≤ 7400000000000000000 := by omega
  rw [hA] at HA1 ⊢
  rw [hB] at HA2 ⊢
  clear hA hB m1 m2 m3 m4
  obtain ⟨F, hF⟩ : ∃ F : Nat → Int, bv.c = F := ⟨_, rfl⟩
  rw [hF] at HC o1 o2 o3 o4 ⊢
  clear hF
  generalize bv.wt = T at *
  generalize F 0 = d0 at *
  generalize F 1 = d1 at *
  generalize F 2 = d2 at *
  generalize F 3 = d3 at *
  generalize F 4 = d4 at *
  generalize F 5 = d5 at *
  clear F bv
  obtain ⟨o, rfl⟩ := Int.eq_ofNat_of_zero_le (show 0 ≤ d1 by omega)
  obtain ⟨u, rfl⟩ := Int.eq_ofNat_of_zero_le o3
  obtain ⟨t, rfl⟩ := Int.eq_ofNat_of_zero_le (show 0 ≤ T by omega)
  simp only [Int.toNat_natCast]
  have n1 := nat_bd (a := o) (b := o) (A := 5000) (B := 5000) (by omega) (by omega)
  have n2 := nat_bd (a := u) (b := u) (A := 5000) (B := 5000) (by omega) (by omega)
  simp only [Nat.reduceMul] at n1 n2
  have r1 : ((o * o : Nat) : Int) = (o : Int) * (o : Int) := Int.natCast_mul ..
  have r2 : ((u * u : Nat) : Int) = (u : Int) * (u : Int) := Int.natCast_mul ..
  have HX := Lib.hid (fun W => ratMost_any A B (3 * o) (o * o + u * u) (9810000 * t) (by omega) (by omega) (by omega) (by omega) (by omega) W)
  rw [show ((3 * o : Nat) : Int) = 3 * (o : Int) by omega, show ((o * o + u * u : Nat) : Int) = (o : Int) * (o : Int) + (u : Int) * (u : Int) by omega, show ((9810000 * t : Nat) : Int) = 9810000 * (t : Int) by omega] at HX
  have n3 : (0 : Int) ≤ (o : Int) * (o : Int) ∧ (o : Int) * (o : Int) ≤ 25000000 := by omega
  have n4 : (0 : Int) ≤ (u : Int) * (u : Int) ∧ (u : Int) * (u : Int) ≤ 25000000 := by omega
  obtain ⟨n3, n3'⟩ := n3
  obtain ⟨n4, n4'⟩ := n4
  clear r1 r2 n1 n2
  generalize decide ((A + B) * (3 * o) ≤ (o * o + u * u) * (9810000 * t)) = z at *
  have d1 : ((k : Nat) : Int) < (n : Int) := by omega
  go_enter Tryd.func67, Tryd.ntmps67
  (go_wp2_with fail); refine calls_after (HR.out _ (by (repeat' (first | (with_reducible exact Below.refl _ _) | (with_reducible assumption) | (with_reducible refine Below.alloc ?_ ?_ _) | (with_reducible refine Below.drew ?_) | (with_reducible refine below_drewN ?_ _) | (with_reducible refine Below.setCell ?_ ?_ _) | (with_reducible refine below_after ?_ ?_ _) | (with_reducible refine below_set ?_) | (with_reducible refine After.size_le _ ?_) | (with_reducible refine size_alloc_le ?_) | (with_reducible refine size_set_le ?_) | (with_reducible refine size_drewN_le ?_) | go_size)))) ?_; intro x1
  have hbx : b < x1.w.heap.size := Nat.lt_of_lt_of_le hb x1.out.size
  obtain ⟨c0, c1, c2, c3, c4, c5⟩ := HC.out w (Below.refl _ w)
  go_wp2_with fail
  refine wp_region_after (by kernel_rfl) (by kernel_rfl) ?_; (repeat (first | go_big_quiet_step ((first | (go_at_call 87; first | (with_reducible exact quiet_after_same (HA1.out _)) | (with_reducible exact quiet_after_same (HA2.out _))) | (go_at_call 86; with_reducible exact quiet_after_same (HX.out _)))) | (refine wpQuiet_step (fun K hK => ?_); go_simp; first | (refine hK _ ?_; clear hK K) | (apply Exists.intro; refine ⟨fun x => ?_, hK _ ?_⟩; (first | (go_at_call 87; first | (with_reducible exact quiet_after_same (HA1.out _)) | (with_reducible exact quiet_after_same (HA2.out _))) | (go_at_call 86; with_reducible exact quiet_after_same (HX.out _))); clear hK K)))); refine wpQuiet_nil ?_
  intro x3
  go_wp2
  go_ret
  exact ⟨rfl, by (repeat' (first | (with_reducible exact Below.refl _ _) | (with_reducible assumption) | (with_reducible refine Below.alloc ?_ ?_ _) | (with_reducible refine Below.drew ?_) | (with_reducible refine below_drewN ?_ _) | (with_reducible refine Below.setCell ?_ ?_ _) | (with_reducible refine below_after ?_ ?_ _) | (with_reducible refine below_set ?_) | (with_reducible refine After.size_le _ ?_) | (with_reducible refine size_alloc_le ?_) | (with_reducible refine size_set_le ?_) | (with_reducible refine size_drewN_le ?_) | go_size))⟩

set_option maxRecDepth 100000 in
set_option maxHeartbeats 4000000 in
theorem rholds_any (b off cap n k : Nat) (p : Int) (s : Nat) (bv : BedV) (w : World) (hk : k < n) (_hn : n ≤ 60) (hb : b < w.heap.size) (h0 : 0 ≤ p) (h1 : p ≤ 10000) (hI : InB bv) (hO : InO bv)
    (hc : KSay w b off k bv.c) (hR : RSay w (.slice (some ⟨b, off, none⟩) n cap) (k : Nat) p s (amE bv p s) (amN bv p s) (9810000 * bv.wt)) :
    Calls Tryd.prog 69 #[.slice (some ⟨b, off, none⟩) n cap, .int .i64 (k : Nat), .int .i64 p, .int .i64 s] w fun e w' => e = .returned (.bool (hoB bv p s)) ∧ Below w.heap.size w w' := by
  have HR : Hid (∀ W, Below w.heap.size w W → _) := hR
  have HC : Hid (∀ W, Below w.heap.size w W → _) := hc
  clear hc hR
  obtain ⟨-, -, -, -, -, -, -, -, ⟨m1, m2⟩, m3, m4⟩ := am_bd s hI h0 h1
  obtain ⟨i1, i2, -⟩ := hI
  obtain ⟨o1, o2, o3, o4⟩ := hO
  unfold hoB
  generalize amE bv p s = E at *
  generalize amN bv p s = N at *
  have HA1 := Lib.hid (fun W => rsize_any E W (by omega) (by omega))
  have HA2 := Lib.hid (fun W => rsize_any N W (by omega) (by omega))
  obtain ⟨A, hA⟩ : ∃ A, E.natAbs = A := ⟨_, rfl⟩
  obtain ⟨B, hB⟩ : ∃ B, N.natAbs = B := ⟨_, rfl⟩
  have a1 : A ≤ 7400000000000000000 := by omega
  have a2 : B ≤ 7400000000000000000 := by omega
  rw [hA] at HA1 ⊢
  rw [hB] at HA2 ⊢
  clear hA hB m1 m2 m3 m4
  obtain ⟨F, hF⟩ : ∃ F : Nat → Int, bv.c = F := ⟨_, rfl⟩
  rw [hF] at HC o1 o2 o3 o4 ⊢
  clear hF
  generalize bv.wt = T at *
  generalize F 0 = d0 at *
  generalize F 1 = d1 at *
  generalize F 2 = d2 at *
  generalize F 3 = d3 at *
  generalize F 4 = d4 at *
  generalize F 5 = d5 at *
  clear F bv
  obtain ⟨o, rfl⟩ := Int.eq_ofNat_of_zero_le (show 0 ≤ d1 by omega)
  obtain ⟨t, rfl⟩ := Int.eq_ofNat_of_zero_le (show 0 ≤ T by omega)
  simp only [Int.toNat_natCast]
  have HX := Lib.hid (fun W => ratMost_any A 0 1 o (9810000 * t) (by omega) (by omega) (by omega) (by omega) (by omega) W)
  have HY := Lib.hid (fun W => ratMost_any B 0 1 o (9810000 * t) (by omega) (by omega) (by omega) (by omega) (by omega) W)
  rw [show ((9810000 * t : Nat) : Int) = 9810000 * (t : Int) by omega] at HX HY
  rw [show ((0 : Nat) : Int) = 0 from rfl, show ((1 : Nat) : Int) = 1 from rfl] at HX HY
  rw [show (A + 0) * 1 = A by omega] at HX
  rw [show (B + 0) * 1 = B by omega] at HY
  rw [Bool.decide_and]
  obtain ⟨z1, e1⟩ : ∃ z, decide (A ≤ o * (9810000 * t)) = z := ⟨_, rfl⟩
  obtain ⟨z2, e2⟩ : ∃ z, decide (B ≤ o * (9810000 * t)) = z := ⟨_, rfl⟩
  rw [e1] at HX ⊢
  rw [e2] at HY ⊢
  clear e1 e2
  have d1 : ((k : Nat) : Int) < (n : Int) := by omega
  cases z1 <;> cases z2
  all_goals
    go_enter Tryd.func69, Tryd.ntmps69
    (go_wp2_with fail); refine calls_after (HR.out _ (by (repeat' (first | (with_reducible exact Below.refl _ _) | (with_reducible assumption) | (with_reducible refine Below.alloc ?_ ?_ _) | (with_reducible refine Below.drew ?_) | (with_reducible refine below_drewN ?_ _) | (with_reducible refine Below.setCell ?_ ?_ _) | (with_reducible refine below_after ?_ ?_ _) | (with_reducible refine below_set ?_) | (with_reducible refine After.size_le _ ?_) | (with_reducible refine size_alloc_le ?_) | (with_reducible refine size_set_le ?_) | (with_reducible refine size_drewN_le ?_) | go_size)))) ?_; intro x1
    have hbx : b < x1.w.heap.size := Nat.lt_of_lt_of_le hb x1.out.size
    obtain ⟨c0, c1, c2, c3, c4, c5⟩ := HC.out w (Below.refl _ w)
    go_wp2_with (first | (go_at_call 87; (first | (with_reducible refine (HA1.out _).mono ?_) | (with_reducible refine (HA2.out _).mono ?_)); rintro e w1 ⟨rfl, rfl⟩) | (go_at_call 86; (first | (with_reducible refine (HX.out _).mono ?_) | (with_reducible refine (HY.out _).mono ?_)); rintro e w1 ⟨rfl, rfl⟩))
    go_ret
    exact ⟨rfl, by (repeat' (first | (with_reducible exact Below.refl _ _) | (with_reducible assumption) | (with_reducible refine Below.alloc ?_ ?_ _) | (with_reducible refine Below.drew ?_) | (with_reducible refine below_drewN ?_ _) | (with_reducible refine Below.setCell ?_ ?_ _) | (with_reducible refine below_after ?_ ?_ _) | (with_reducible refine below_set ?_) | (with_reducible refine After.size_le _ ?_) | (with_reducible refine size_alloc_le ?_) | (with_reducible refine size_set_le ?_) | (with_reducible refine size_drewN_le ?_) | go_size))⟩
end Go.Proofs.YtplhbklfaokjbaaDoor
