/- Whether a bed is closed, and whether it holds, in the program. -/
import Derived.Test.YtplhbklfaokjbaaDoorWide
namespace Go.Proofs.YtplhbklfaokjbaaDoor
open Go.RowKit
attribute [local go_sem] After.cell After.frozen After.lt After.le After.ne After.ne' After.set_eq After.size_set After.lt_add

/-- The course's own outside and inside. -/
def InO (v : BedV) : Prop := 1 ≤ v.c 1 ∧ v.c 1 ≤ 5000 ∧ 0 ≤ v.c 2 ∧ v.c 2 ≤ 5000
theorem inO_bI {f : Nat → Nat → Int} {n k : Nat} (hG : GoodC n f) (hk : k < n) : InO (bI f n k) := by
  have hO := hG.2.2 k hk
  unfold OkC InCr at hO
  unfold InO
  rw [(bI_ix (f := f) hk).2]
  omega
/-- No part of the bed is lifted. -/
def clB (v : BedV) (p : Int) (s : Nat) : Bool := decide (((amE v p s).natAbs + (amN v p s).natAbs) * (3 * (v.c 1).toNat) ≤ ((v.c 1).toNat * (v.c 1).toNat + (v.c 2).toNat * (v.c 2).toNat) * (9810000 * v.wt.toNat))
def hoB (v : BedV) (p : Int) (s : Nat) : Bool := decide ((amE v p s).natAbs ≤ (v.c 1).toNat * (9810000 * v.wt.toNat) ∧ (amN v p s).natAbs ≤ (v.c 1).toNat * (9810000 * v.wt.toNat))
theorem nat_bd {a b A B : Nat} (h1 : a ≤ A) (h2 : b ≤ B) : a * b ≤ A * B := Nat.mul_le_mul h1 h2
theorem halves_le (X Y : Nat) : decide (X / 18446744073709551616 * 18446744073709551616 + X % 18446744073709551616 ≤ Y / 18446744073709551616 * 18446744073709551616 + Y % 18446744073709551616) = decide (X ≤ Y) := decide_eq_decide.2 (by omega)

set_option maxRecDepth 100000 in
set_option maxHeartbeats 4000000 in
theorem closed_any (v : BedV) (p : Int) (s : Nat) (w : World) (hT : Tab w) (h : InB v) (hO : InO v) (hs : s < 4) (h0 : 0 ≤ p) (h1 : p ≤ 10000) :
    Calls Tryd.prog 66 #[v.val, .int .i64 p, .int .i64 s] w fun e w' => e = .returned (.bool (clB v p s)) ∧ Below w.heap.size w w' := by
  have HM : Hid (∀ W, Below w.heap.size w W → Calls Tryd.prog 63 #[v.val, .int .i64 p, .int .i64 s] W fun e w' => e = .returned (.tuple #[.int .i64 (amE v p s), .int .i64 (amN v p s)]) ∧ Below W.heap.size W w') := fun W hW => arm_any v p s W (hT.on hW) h hs h0 h1
  have HP := Lib.hid (fun W => parts_any v W h)
  obtain ⟨-, -, -, -, -, -, -, -, ⟨m1, m2⟩, m3, m4⟩ := am_bd s h h0 h1
  obtain ⟨i1, i2, -⟩ := h
  obtain ⟨o1, o2, o3, o4⟩ := hO
  unfold clB
  clear hT
  generalize amE v p s = E at *
  generalize amN v p s = N at *
  have HA1 := Lib.hid (fun W => sabs_any E W (by omega) (by omega))
  have HA2 := Lib.hid (fun W => sabs_any N W (by omega) (by omega))
  obtain ⟨A, hA⟩ : ∃ A, E.natAbs = A := ⟨_, rfl⟩
  obtain ⟨B, hB⟩ : ∃ B, N.natAbs = B := ⟨_, rfl⟩
  have a1 : A ≤ 7400000000000000000 := by omega
  have a2 : B ≤ 7400000000000000000 := by omega
  rw [hA] at HA1 ⊢
  rw [hB] at HA2 ⊢
  clear hA hB m1 m2 m3 m4
  simp only [BedV.val] at *
  obtain ⟨F, hF⟩ : ∃ F : Nat → Int, v.c = F := ⟨_, rfl⟩
  rw [hF] at HM HP o1 o2 o3 o4 ⊢
  clear hF
  generalize v.ix = xi at *
  generalize v.wt = T at *
  generalize v.ea = xe at *
  generalize v.no = xn at *
  generalize v.fa = xf at *
  generalize v.pu = xp at *
  generalize F 0 = d0 at *
  generalize F 1 = d1 at *
  generalize F 2 = d2 at *
  generalize F 3 = d3 at *
  generalize F 4 = d4 at *
  generalize F 5 = d5 at *
  clear F v
  obtain ⟨o, rfl⟩ := Int.eq_ofNat_of_zero_le (show 0 ≤ d1 by omega)
  obtain ⟨u, rfl⟩ := Int.eq_ofNat_of_zero_le o3
  obtain ⟨t, rfl⟩ := Int.eq_ofNat_of_zero_le (show 0 ≤ T by omega)
  simp only [Int.toNat_natCast]
  have n1 := nat_bd (a := o) (b := o) (A := 5000) (B := 5000) (by omega) (by omega)
  have n2 := nat_bd (a := u) (b := u) (A := 5000) (B := 5000) (by omega) (by omega)
  simp only [Nat.reduceMul] at n1 n2
  rw [← halves_le]
  obtain ⟨h1, e1⟩ : ∃ h, (A + B) * (3 * o) / 18446744073709551616 = h := ⟨_, rfl⟩
  obtain ⟨l1, e2⟩ : ∃ h, (A + B) * (3 * o) % 18446744073709551616 = h := ⟨_, rfl⟩
  obtain ⟨h2, e3⟩ : ∃ h, (o * o + u * u) * (9810000 * t) / 18446744073709551616 = h := ⟨_, rfl⟩
  obtain ⟨l2, e4⟩ : ∃ h, (o * o + u * u) * (9810000 * t) % 18446744073709551616 = h := ⟨_, rfl⟩
  have r1 : ((o * o : Nat) : Int) = (o : Int) * (o : Int) := Int.natCast_mul ..
  have r2 : ((u * u : Nat) : Int) = (u : Int) * (u : Int) := Int.natCast_mul ..
  have HX := Lib.hid (fun W => product_any (A + B) (3 * o) h1 l1 (by omega) (by omega) e1 e2 W)
  have HY := Lib.hid (fun W => product_any (o * o + u * u) (9810000 * t) h2 l2 (by omega) (by omega) e3 e4 W)
  rw [show ((A + B : Nat) : Int) = (A : Int) + (B : Int) by omega, show ((3 * o : Nat) : Int) = 3 * (o : Int) by omega] at HX
  rw [show ((o * o + u * u : Nat) : Int) = (o : Int) * (o : Int) + (u : Int) * (u : Int) by omega, show ((9810000 * t : Nat) : Int) = 9810000 * (t : Int) by omega] at HY
  have HL := Lib.hid (fun W => atMost_any h1 l1 h2 l2 (by omega) (by omega) W)
  have n3 : (0 : Int) ≤ (o : Int) * (o : Int) ∧ (o : Int) * (o : Int) ≤ 25000000 := by omega
  have n4 : (0 : Int) ≤ (u : Int) * (u : Int) ∧ (u : Int) * (u : Int) ≤ 25000000 := by omega
  obtain ⟨n3, n3'⟩ := n3
  obtain ⟨n4, n4'⟩ := n4
  rw [e1, e2, e3, e4]
  clear e1 e2 e3 e4 r1 r2 n1 n2
  generalize decide (h1 * 18446744073709551616 + l1 ≤ h2 * 18446744073709551616 + l2) = z at *
  go_enter Tryd.func66, Tryd.ntmps66
  (go_wp2_with fail); refine calls_after (HM.out _ (by (repeat' (first | (with_reducible exact Below.refl _ _) | (with_reducible assumption) | (with_reducible refine Below.alloc ?_ ?_ _) | (with_reducible refine Below.drew ?_) | (with_reducible refine below_drewN ?_ _) | (with_reducible refine Below.setCell ?_ ?_ _) | (with_reducible refine below_after ?_ ?_ _) | (with_reducible refine below_set ?_) | (with_reducible refine After.size_le _ ?_) | (with_reducible refine size_alloc_le ?_) | (with_reducible refine size_set_le ?_) | (with_reducible refine size_drewN_le ?_) | go_size)))) ?_; intro x1; have hz_x1 := x1.out.size; (try simp only [World.size_alloc] at hz_x1); (try simp only [World.size_setCell] at hz_x1); (try simp only [World.size_alloc] at hz_x1); have k0_x1 : w.heap.size < x1.w.heap.size := (by omega); have j0_x1 : w.heap.size < x1.w.heap.size + 1 := (by omega)
  go_wp2_with fail
  go_quiet (fail)
  go_wp2_with (go_at_call 82; first | (with_reducible refine (HA1.out _).mono ?_; rintro e w1 ⟨rfl, rfl⟩) | (with_reducible refine (HA2.out _).mono ?_; rintro e w1 ⟨rfl, rfl⟩))
  refine calls_afterD (HX.out _) ?_
  intro x2
  have hz_x2 := x2.out.size; (try simp only [World.size_alloc] at hz_x2); (try simp only [World.size_setCell] at hz_x2); (try simp only [World.size_alloc] at hz_x2); have k0_x2 : w.heap.size < x2.w.heap.size := (by omega); have j0_x2 : w.heap.size < x2.w.heap.size + 1 := (by omega)
  go_wp2_with fail
  refine wp_region_after (by kernel_rfl) (by kernel_rfl) ?_; (repeat (first | go_big_quiet_step ((first | (go_at_call 64; with_reducible exact quiet_after (HP.out _)) | (go_at_call 84; with_reducible exact quiet_after (HY.out _)) | (go_at_call 85; with_reducible exact quiet_after (HL.out _)))) | (refine wpQuiet_step (fun K hK => ?_); go_simp; first | (refine hK _ ?_; clear hK K) | (apply Exists.intro; refine ⟨fun x => ?_, hK _ ?_⟩; (first | (go_at_call 64; with_reducible exact quiet_after (HP.out _)) | (go_at_call 84; with_reducible exact quiet_after (HY.out _)) | (go_at_call 85; with_reducible exact quiet_after (HL.out _))); clear hK K)))); refine wpQuiet_nil ?_
  intro x3
  go_wp2
  go_ret
  exact ⟨rfl, by (repeat' (first | (with_reducible exact Below.refl _ _) | (with_reducible assumption) | (with_reducible refine Below.alloc ?_ ?_ _) | (with_reducible refine Below.drew ?_) | (with_reducible refine below_drewN ?_ _) | (with_reducible refine Below.setCell ?_ ?_ _) | (with_reducible refine below_after ?_ ?_ _) | (with_reducible refine below_set ?_) | (with_reducible refine After.size_le _ ?_) | (with_reducible refine size_alloc_le ?_) | (with_reducible refine size_set_le ?_) | (with_reducible refine size_drewN_le ?_) | go_size))⟩
end Go.Proofs.YtplhbklfaokjbaaDoor
