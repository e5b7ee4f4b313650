/- Whether a bed holds, in the program. -/
import Derived.Test.YtplhbklfaokjbaaDoorClosed
namespace Go.Proofs.YtplhbklfaokjbaaDoor
open Go.RowKit
attribute [local go_sem] After.cell After.frozen After.lt After.le After.ne After.ne' After.set_eq After.size_set After.lt_add

set_option maxRecDepth 100000 in
set_option maxHeartbeats 4000000 in
theorem holds_any (v : BedV) (p : Int) (s : Nat) (w : World) (hT : Tab w) (h : InB v) (hO : InO v) (hs : s < 4) (h0 : 0 ≤ p) (h1 : p ≤ 10000) :
    Calls Tryd.prog 68 #[v.val, .int .i64 p, .int .i64 s] w fun e w' => e = .returned (.bool (hoB v p s)) ∧ Below w.heap.size w w' := by
  have HM : Hid (∀ W, Below w.heap.size w W → Calls Tryd.prog 63 #[v.val, .int .i64 p, .int .i64 s] W fun e w' => e = .returned (.tuple #[.int .i64 (amE v p s), .int .i64 (amN v p s)]) ∧ Below W.heap.size W w') := fun W hW => arm_any v p s W (hT.on hW) h hs h0 h1
  have HP := Lib.hid (fun W => parts_any v W h)
  obtain ⟨-, -, -, -, -, -, -, -, ⟨m1, m2⟩, m3, m4⟩ := am_bd s h h0 h1
  obtain ⟨i1, i2, -⟩ := h
  obtain ⟨o1, o2, o3, o4⟩ := hO
  unfold hoB
  clear hT
  generalize amE v p s = E at *
  generalize amN v p s = N at *
  have HA1 := Lib.hid (fun W => sabs_any E W (by omega) (by omega))
  have HA2 := Lib.hid (fun W => sabs_any N W (by omega) (by omega))
  obtain ⟨A, hA⟩ : ∃ A, E.natAbs = A := ⟨_, rfl⟩
  obtain ⟨B, hB⟩ : ∃ B, N.natAbs = B := ⟨_, rfl⟩
  have a1 : A ≤ 7400000000000000000 := by omega
  have a2 : B ≤ 7400000000000000000 := by omega
  rw [hA] at HA1 ⊢
  rw [hB] at HA2 ⊢
  clear hA hB m1 m2 m3 m4
  simp only [BedV.val] at *
  obtain ⟨F, hF⟩ : ∃ F : Nat → Int, v.c = F := ⟨_, rfl⟩
  rw [hF] at HM HP o1 o2 o3 o4 ⊢
  clear hF
  generalize v.ix = xi at *
  generalize v.wt = T at *
  generalize v.ea = xe at *
  generalize v.no = xn at *
  generalize v.fa = xf at *
  generalize v.pu = xp at *
  generalize F 0 = d0 at *
  generalize F 1 = d1 at *
  generalize F 2 = d2 at *
  generalize F 3 = d3 at *
  generalize F 4 = d4 at *
  generalize F 5 = d5 at *
  clear F v
  obtain ⟨o, rfl⟩ := Int.eq_ofNat_of_zero_le (show 0 ≤ d1 by omega)
  obtain ⟨t, rfl⟩ := Int.eq_ofNat_of_zero_le (show 0 ≤ T by omega)
  simp only [Int.toNat_natCast]
  have n1 := nat_bd (a := o) (b := 9810000 * t) (A := 5000) (B := 588600000000000) (by omega) (by omega)
  simp only [Nat.reduceMul] at n1
  have r1 : ((o * (9810000 * t) : Nat) : Int) = (o : Int) * (9810000 * (t : Int)) := by rw [Int.natCast_mul, Int.natCast_mul]; rfl
  have n3 : (0 : Int) ≤ (o : Int) * (9810000 * (t : Int)) ∧ (o : Int) * (9810000 * (t : Int)) ≤ 2943000000000000000 := by omega
  obtain ⟨n3, n3'⟩ := n3
  have key : Hid (decide ((max (A : Int) (B : Int)) ≤ (o : Int) * (9810000 * (t : Int))) = decide (A ≤ o * (9810000 * t) ∧ B ≤ o * (9810000 * t))) := decide_eq_decide.2 (by omega)
  rw [← key.out]
  clear n1 r1
  obtain ⟨z, hz⟩ : ∃ z, decide ((max (A : Int) (B : Int)) ≤ (o : Int) * (9810000 * (t : Int))) = z := ⟨_, rfl⟩
  rw [hz]
  have HZ := Lib.hid hz
  clear hz
  go_enter Tryd.func68, Tryd.ntmps68
  (go_wp2_with fail); refine calls_after (HM.out _ (by (repeat' (first | (with_reducible exact Below.refl _ _) | (with_reducible assumption) | (with_reducible refine Below.alloc ?_ ?_ _) | (with_reducible refine Below.drew ?_) | (with_reducible refine below_drewN ?_ _) | (with_reducible refine Below.setCell ?_ ?_ _) | (with_reducible refine below_after ?_ ?_ _) | (with_reducible refine below_set ?_) | (with_reducible refine After.size_le _ ?_) | (with_reducible refine size_alloc_le ?_) | (with_reducible refine size_set_le ?_) | (with_reducible refine size_drewN_le ?_) | go_size)))) ?_; intro x1; have hz_x1 := x1.out.size; (try simp only [World.size_alloc] at hz_x1); (try simp only [World.size_setCell] at hz_x1); (try simp only [World.size_alloc] at hz_x1); have k0_x1 : w.heap.size < x1.w.heap.size := (by omega); have j0_x1 : w.heap.size < x1.w.heap.size + 1 := (by omega)
  go_wp2_with fail
  refine wp_region_after (by kernel_rfl) (by kernel_rfl) ?_; (repeat (first | go_big_quiet_step ((first | (go_at_call 64; with_reducible exact quiet_after (HP.out _)) | (go_at_call 82; first | (with_reducible exact quiet_after_same (HA1.out _)) | (with_reducible exact quiet_after_same (HA2.out _))))) | (refine wpQuiet_step (fun K hK => ?_); go_simp; first | (refine hK _ ?_; clear hK K) | (apply Exists.intro; refine ⟨fun x => ?_, hK _ ?_⟩; (first | (go_at_call 64; with_reducible exact quiet_after (HP.out _)) | (go_at_call 82; first | (with_reducible exact quiet_after_same (HA1.out _)) | (with_reducible exact quiet_after_same (HA2.out _)))); clear hK K)))); refine wpQuiet_nil ?_
  all_goals
    intro x3
    go_wp2
  all_goals
    go_ret
    exact ⟨by rw [← HZ.out]; exact congrArg (fun b => Ending.returned (.bool b)) (decide_eq_decide.2 (by omega)), by (repeat' (first | (with_reducible exact Below.refl _ _) | (with_reducible assumption) | (with_reducible refine Below.alloc ?_ ?_ _) | (with_reducible refine Below.drew ?_) | (with_reducible refine below_drewN ?_ _) | (with_reducible refine Below.setCell ?_ ?_ _) | (with_reducible refine below_after ?_ ?_ _) | (with_reducible refine below_set ?_) | (with_reducible refine After.size_le _ ?_) | (with_reducible refine size_alloc_le ?_) | (with_reducible refine size_set_le ?_) | (with_reducible refine size_drewN_le ?_) | go_size))⟩
end Go.Proofs.YtplhbklfaokjbaaDoor
