/- Arm in the program. -/
import Derived.Test.YtcaelmaoldmgpaaDoorCrSumsp
namespace Go.Proofs.YtcaelmaoldmgpaaDoor.Cr
open Go.Proofs.YtcaelmaoldmgpaaDoor
open Go.RowKit

/-- What bedInWind hands back. -/
def wiV (bv : BedV) (e p s : Int) : BedV := if e = 0 ∧ ¬ WindOk p s then zbed else bv
def wiE (e p s : Int) : Int := if e = 0 ∧ ¬ WindOk p s then 7 else e
theorem one_out {X : World} {B : Nat} {v : BedV} {e : Int} {t0 t1 t2 t3 t4 t5 t6 t7 t10 t11 t12 t13 t14 t15 t16 t17 t18 t19 t20 t21 t22 t23 t24 t25 t26 t27 t28 : Value} (h : BedCells X B v) :
    (results Tryd.f39 #[t0, t1, t2, t3, t4, t5, t6, t7, .pointer (some ⟨B, 0, none⟩), .int .i64 e, t10, t11, t12, t13, t14, t15, t16, t17, t18, t19, t20, t21, t22, t23, t24, t25, t26, t27, t28]).run Tryd.prog X = .ok (.tuple #[v.val, .int .i64 e]) X := by
  obtain ⟨c0, c1, c2, c3, c4, c5, c6, c7, c8, c9, c10, c11, _⟩ := h
  simp [results, Tryd.results39, go_sem, *, BedV.val]

theorem bed_put {w W : World} (v : BedV) {u : BedV} (h : BedCells W w.heap.size u) (hb : Below w.heap.size w W) : ∃ X, setBed W w.heap.size v = X ∧ BedCells X w.heap.size v ∧ Below w.heap.size w X :=
  ⟨_, rfl, setBed_cells h, hb.trans ((setBed_fr (M := fun i => w.heap.size ≤ i) (Fr.refl W) (Nat.le_refl _)).below hb.size (fun i h => by omega))⟩

set_option maxRecDepth 100000 in
set_option maxHeartbeats 2000000 in
theorem bedInWind_any (a : Option Addr) (n cap : Nat) (i p s : Int) (bv : BedV) (w : World) (hB : BSay w (.slice a n cap) i bv 0) :
    Calls Tryd.prog 39 #[.slice a n cap, .int .i64 i, .int .i64 p, .int .i64 s] w fun r w' => r = .returned (.tuple #[(wiV bv 0 p s).val, .int .i64 (wiE 0 p s)]) ∧ Below w.heap.size w w' := by
  have HB : Hid (∀ W, Below w.heap.size w W → _) := hB
  clear hB
  simp only [BedV.val] at HB
  by_cases hw : WindOk p s
  · have e1 : wiV bv 0 p s = bv := if_neg (fun h => h.2 hw)
    have e2 : wiE 0 p s = 0 := if_neg (fun h => h.2 hw)
    rw [e1, e2]
    have HW := Lib.hid (validWind_any p s)
    rw [decide_eq_true hw] at HW
    clear hw e1 e2
    go_enter Tryd.func39, Tryd.ntmps39
    go_wp2_with fail
    refine (HB.out _ (by (repeat' (first | (with_reducible exact Below.refl _ _) | (with_reducible assumption) | (with_reducible refine Below.alloc ?_ ?_ _) | (with_reducible refine Below.drew ?_) | (with_reducible refine below_drewN ?_ _) | (with_reducible refine Below.setCell ?_ ?_ _) | (with_reducible refine below_after ?_ ?_ _) | (with_reducible refine below_set ?_) | (with_reducible refine After.size_le _ ?_) | (with_reducible refine size_alloc_le ?_) | (with_reducible refine size_set_le ?_) | (with_reducible refine size_drewN_le ?_) | go_size)))).mono ?_
    rintro r w1 ⟨rfl, hb⟩
    have q0 : BedCells w1 w.heap.size zbed := (zero_cells _ _ (heap_alloc_new w _)).fr (M := fun _ => False) (fr_below hb) id
    have hb2 : Below w.heap.size w w1 := ((Below.refl _ w).alloc (Nat.le_refl _) _).trans (hb.mono (by simp))
    have hs1 := hb.size
    rw [World.size_alloc] at hs1
    clear hb
    go_wp2_with fail
    have nb := new_bed w1 bv
    have q1 := q0.fr (M := fun _ => False) ((Fr.refl w1).alloc (.cells #[.int .i64 bv.ix, .int .i64 (bv.c 0), .int .i64 (bv.c 1), .int .i64 (bv.c 2), .int .i64 (bv.c 3), .int .i64 (bv.c 4), .int .i64 (bv.c 5), .int .i64 bv.wt, .int .i64 bv.ea, .int .i64 bv.no, .int .i64 bv.fa, .int .i64 bv.pu] 83)) id
    have hb3 := hb2.alloc hb2.size (.cells #[.int .i64 bv.ix, .int .i64 (bv.c 0), .int .i64 (bv.c 1), .int .i64 (bv.c 2), .int .i64 (bv.c 3), .int .i64 (bv.c 4), .int .i64 (bv.c 5), .int .i64 bv.wt, .int .i64 bv.ea, .int .i64 bv.no, .int .i64 bv.fa, .int .i64 bv.pu] 83)
    obtain ⟨V, hV⟩ : ∃ V, w1.alloc (.cells #[.int .i64 bv.ix, .int .i64 (bv.c 0), .int .i64 (bv.c 1), .int .i64 (bv.c 2), .int .i64 (bv.c 3), .int .i64 (bv.c 4), .int .i64 (bv.c 5), .int .i64 bv.wt, .int .i64 bv.ea, .int .i64 bv.no, .int .i64 bv.fa, .int .i64 bv.pu] 83) = V := ⟨_, rfl⟩
    rw [hV] at nb q1 hb3 ⊢
    clear hV hb2 q0
    refine (HW.out _).mono ?_
    rintro r W2 ⟨rfl, hb4⟩
    replace q1 := q1.fr (M := fun _ => False) (fr_below hb4) id
    replace nb := nb.fr (M := fun _ => False) (fr_below hb4) id
    replace hb3 := hb3.trans (hb4.mono (by have := hb3.size; omega))
    clear hb4
    obtain ⟨X, hX, x1, x2⟩ := bed_put bv q1 hb3
    clear hb3
    obtain ⟨z0, z1, z2, z3, z4, z5, z6, z7, z8, z9, z10, z11, zf⟩ := q1
    obtain ⟨c0, c1, c2, c3, c4, c5, c6, c7, c8, c9, c10, c11, cf⟩ := nb
    simp only [zbed] at z0 z1 z2 z3 z4 z5 z6 z7 z8 z9 z10 z11
    have HX := Lib.hid hX
    clear hX
    go_wp2_with fail
    have hX := HX.out
    unfold setBed at hX
    rw [hX]
    exact bodyPost_ret (one_out x1) rfl ⟨rfl, x2⟩
  · have e1 : wiV bv 0 p s = zbed := if_pos ⟨rfl, hw⟩
    have e2 : wiE 0 p s = 7 := if_pos ⟨rfl, hw⟩
    rw [e1, e2]
    have HW := Lib.hid (validWind_any p s)
    rw [decide_eq_false hw] at HW
    clear hw e1 e2
    go_enter Tryd.func39, Tryd.ntmps39
    go_wp2_with fail
    refine (HB.out _ (by (repeat' (first | (with_reducible exact Below.refl _ _) | (with_reducible assumption) | (with_reducible refine Below.alloc ?_ ?_ _) | (with_reducible refine Below.drew ?_) | (with_reducible refine below_drewN ?_ _) | (with_reducible refine Below.setCell ?_ ?_ _) | (with_reducible refine below_after ?_ ?_ _) | (with_reducible refine below_set ?_) | (with_reducible refine After.size_le _ ?_) | (with_reducible refine size_alloc_le ?_) | (with_reducible refine size_set_le ?_) | (with_reducible refine size_drewN_le ?_) | go_size)))).mono ?_
    rintro r w1 ⟨rfl, hb⟩
    have q0 : BedCells w1 w.heap.size zbed := (zero_cells _ _ (heap_alloc_new w _)).fr (M := fun _ => False) (fr_below hb) id
    have hb2 : Below w.heap.size w w1 := ((Below.refl _ w).alloc (Nat.le_refl _) _).trans (hb.mono (by simp))
    have hs1 := hb.size
    rw [World.size_alloc] at hs1
    clear hb
    go_wp2_with fail
    have nb := new_bed w1 bv
    have q1 := q0.fr (M := fun _ => False) ((Fr.refl w1).alloc (.cells #[.int .i64 bv.ix, .int .i64 (bv.c 0), .int .i64 (bv.c 1), .int .i64 (bv.c 2), .int .i64 (bv.c 3), .int .i64 (bv.c 4), .int .i64 (bv.c 5), .int .i64 bv.wt, .int .i64 bv.ea, .int .i64 bv.no, .int .i64 bv.fa, .int .i64 bv.pu] 83)) id
    have hb3 := hb2.alloc hb2.size (.cells #[.int .i64 bv.ix, .int .i64 (bv.c 0), .int .i64 (bv.c 1), .int .i64 (bv.c 2), .int .i64 (bv.c 3), .int .i64 (bv.c 4), .int .i64 (bv.c 5), .int .i64 bv.wt, .int .i64 bv.ea, .int .i64 bv.no, .int .i64 bv.fa, .int .i64 bv.pu] 83)
    obtain ⟨V, hV⟩ : ∃ V, w1.alloc (.cells #[.int .i64 bv.ix, .int .i64 (bv.c 0), .int .i64 (bv.c 1), .int .i64 (bv.c 2), .int .i64 (bv.c 3), .int .i64 (bv.c 4), .int .i64 (bv.c 5), .int .i64 bv.wt, .int .i64 bv.ea, .int .i64 bv.no, .int .i64 bv.fa, .int .i64 bv.pu] 83) = V := ⟨_, rfl⟩
    rw [hV] at nb q1 hb3 ⊢
    clear hV hb2 q0
    refine (HW.out _).mono ?_
    rintro r W2 ⟨rfl, hb4⟩
    replace q1 := q1.fr (M := fun _ => False) (fr_below hb4) id
    replace nb := nb.fr (M := fun _ => False) (fr_below hb4) id
    replace hb3 := hb3.trans (hb4.mono (by have := hb3.size; omega))
    clear hb4
    obtain ⟨X, hX, x1, x2⟩ := bed_put zbed q1 hb3
    clear hb3 nb
    obtain ⟨z0, z1, z2, z3, z4, z5, z6, z7, z8, z9, z10, z11, zf⟩ := q1
    simp only [zbed] at z0 z1 z2 z3 z4 z5 z6 z7 z8 z9 z10 z11
    have HX := Lib.hid hX
    clear hX
    go_wp2_with fail
    have hX := HX.out
    unfold setBed zbed at hX
    dsimp only at hX
    rw [hX]
    exact bodyPost_ret (one_out x1) rfl ⟨rfl, x2⟩

def ASay (w : World) (v : Value) (i p s : Int) (bv : BedV) (e : Int) : Prop := ∀ W, Below w.heap.size w W → Calls Tryd.prog 39 #[v, .int .i64 i, .int .i64 p, .int .i64 s] W fun r w' => r = .returned (.tuple #[bv.val, .int .i64 e]) ∧ Below W.heap.size W w'
attribute [local go_sem] After.cell After.frozen After.lt After.le After.ne After.ne' After.set_eq After.size_set After.lt_add

set_option maxRecDepth 100000 in
set_option maxHeartbeats 4000000 in
theorem armR_ok (a : Option Addr) (n cap : Nat) (i p : Int) (s : Nat) (bv : BedV) (w : World) (hA : ASay w (.slice a n cap) i p s bv 0) (hI : InB bv) (hT : Tab w) (hs : s < 4) (h0 : 0 ≤ p) (h1 : p ≤ 10000) :
    Calls Tryd.prog 18 #[.slice a n cap, .int .i64 i, .int .i64 p, .int .i64 s] w fun r w' => r = .returned (.tuple #[.agg #[.int .i64 (ratN (amE bv p s) (9810000 * bv.wt)), .int .i64 (ratD (amE bv p s) (9810000 * bv.wt))], .agg #[.int .i64 (ratN (amN bv p s) (9810000 * bv.wt)), .int .i64 (ratD (amN bv p s) (9810000 * bv.wt))], .int .i64 0]) ∧ Below w.heap.size w w' := by
  have HA : Hid (∀ W, Below w.heap.size w W → _) := hA
  have HM : Hid (∀ W, Below w.heap.size w W → Calls Tryd.prog 40 #[bv.val, .int .i64 p, .int .i64 s] W fun e w' => e = .returned (.tuple #[.int .i64 (amE bv p s), .int .i64 (amN bv p s)]) ∧ Below W.heap.size W w') := fun W hW => arm_any bv p s W (hT.on hW) hI hs h0 h1
  have HP := Lib.hid (fun W => parts_any bv W hI)
  obtain ⟨_, _, _, _, _, _, _, _, ⟨m1, m2⟩, m3, m4⟩ := am_bd s hI h0 h1
  have hI1 := hI.1
  have hI2 := hI.2.1
  have HR1 := Lib.hid (fun W => sratio_any (amE bv p s) (9810000 * bv.wt) W (by omega) (by omega) (by omega) (by omega))
  have HR2 := Lib.hid (fun W => sratio_any (amN bv p s) (9810000 * bv.wt) W (by omega) (by omega) (by omega) (by omega))
  clear hA hT hI m1 m2 m3 m4 hI1 hI2
  generalize amE bv p s = eN at *
  generalize amN bv p s = nN at *
  generalize 9810000 * bv.wt = dN at *
  simp only [BedV.val] at HA HM HP
  go_enter Tryd.func18, Tryd.ntmps18
  go_wp2_with fail
  refine calls_after (HA.out _ (by (repeat' (first | (with_reducible exact Below.refl _ _) | (with_reducible assumption) | (with_reducible refine Below.alloc ?_ ?_ _) | (with_reducible refine Below.drew ?_) | (with_reducible refine below_drewN ?_ _) | (with_reducible refine Below.setCell ?_ ?_ _) | (with_reducible refine below_after ?_ ?_ _) | (with_reducible refine below_set ?_) | (with_reducible refine After.size_le _ ?_) | (with_reducible refine size_alloc_le ?_) | (with_reducible refine size_set_le ?_) | (with_reducible refine size_drewN_le ?_) | go_size)))) ?_
  intro x1
  have hz_x1 := x1.out.size; (try simp only [World.size_alloc] at hz_x1); (try simp only [World.size_setCell] at hz_x1); (try simp only [World.size_alloc] at hz_x1); have k0_x1 : w.heap.size < x1.w.heap.size := (by omega); have j0_x1 : w.heap.size < x1.w.heap.size + 1 := (by omega); have k1_x1 : w.heap.size + 1 < x1.w.heap.size := (by omega); have j1_x1 : w.heap.size + 1 < x1.w.heap.size + 1 := (by omega)
  go_wp2_with fail
  have nb := new_bed x1.w bv
  obtain ⟨y, hy⟩ := after_ofB (x1.out.alloc x1.out.size (.cells #[.int .i64 bv.ix, .int .i64 (bv.c 0), .int .i64 (bv.c 1), .int .i64 (bv.c 2), .int .i64 (bv.c 3), .int .i64 (bv.c 4), .int .i64 (bv.c 5), .int .i64 bv.wt, .int .i64 bv.ea, .int .i64 bv.no, .int .i64 bv.fa, .int .i64 bv.pu] 83))
  rw [hy] at nb ⊢
  have hsy : y.w.heap.size = x1.w.heap.size + 1 := by rw [← hy]; simp
  clear hy
  have hz := y.out.size
  have nb0 := Lib.hid nb
  obtain ⟨c0, c1, c2, c3, c4, c5, c6, c7, c8, c9, c10, c11, cf⟩ := nb
  have hz_y := y.out.size; (try simp only [World.size_alloc] at hz_y); (try simp only [World.size_setCell] at hz_y); (try simp only [World.size_alloc] at hz_y); have k0_y : w.heap.size < y.w.heap.size := (by omega); have j0_y : w.heap.size < y.w.heap.size + 1 := (by omega); have k1_y : w.heap.size + 1 < y.w.heap.size := (by omega); have j1_y : w.heap.size + 1 < y.w.heap.size + 1 := (by omega); have k2_y : x1.w.heap.size < y.w.heap.size := (by omega); have j2_y : x1.w.heap.size < y.w.heap.size + 1 := (by omega)
  go_wp2_with fail
  refine (HM.out _ (by (repeat' (first | (with_reducible exact Below.refl _ _) | (with_reducible assumption) | (with_reducible refine Below.alloc ?_ ?_ _) | (with_reducible refine Below.drew ?_) | (with_reducible refine below_drewN ?_ _) | (with_reducible refine Below.setCell ?_ ?_ _) | (with_reducible refine below_after ?_ ?_ _) | (with_reducible refine below_set ?_) | (with_reducible refine After.size_le _ ?_) | (with_reducible refine size_alloc_le ?_) | (with_reducible refine size_set_le ?_) | (with_reducible refine size_drewN_le ?_) | go_size)))).mono ?_
  rintro r w2 ⟨rfl, hb2⟩
  have nb2 := nb0.out.fr (M := fun _ => False) (fr_below hb2) id
  have hb3 := hb2.size
  obtain ⟨x2, rfl⟩ := after_ofB (y.out.trans (hb2.mono y.out.size))
  clear hb2 c0 c1 c2 c3 c4 c5 c6 c7 c8 c9 c10 c11 cf nb0
  obtain ⟨c0, c1, c2, c3, c4, c5, c6, c7, c8, c9, c10, c11, cf⟩ := nb2
  have hz_x2 := x2.out.size; (try simp only [World.size_alloc] at hz_x2); (try simp only [World.size_setCell] at hz_x2); (try simp only [World.size_alloc] at hz_x2); have k0_x2 : w.heap.size < x2.w.heap.size := (by omega); have j0_x2 : w.heap.size < x2.w.heap.size + 1 := (by omega); have k1_x2 : w.heap.size + 1 < x2.w.heap.size := (by omega); have j1_x2 : w.heap.size + 1 < x2.w.heap.size + 1 := (by omega); have k2_x2 : x1.w.heap.size < x2.w.heap.size := (by omega); have j2_x2 : x1.w.heap.size < x2.w.heap.size + 1 := (by omega)
  go_wp2_with fail
  refine wp_region_after_tail 8 (by kernel_rfl) (by kernel_rfl) ?_; simp only [List.take_succ_cons, List.take_zero, List.drop_succ_cons, List.drop_zero]; (repeat (first | go_big_quiet_step ((first | (go_at_call 42; with_reducible exact quiet_after (HP.out _)) | (go_at_call 41; first | with_reducible exact quiet_after (HR1.out _) | with_reducible exact quiet_after (HR2.out _)))) | (refine wpQuiet_step (fun K hK => ?_); go_simp; first | (refine hK _ ?_; clear hK K) | (apply Exists.intro; refine ⟨fun x => ?_, hK _ ?_⟩; (first | (go_at_call 42; with_reducible exact quiet_after (HP.out _)) | (go_at_call 41; first | with_reducible exact quiet_after (HR1.out _) | with_reducible exact quiet_after (HR2.out _))); clear hK K)))); refine wpQuiet_nil ?_
  intro x3
  have hz_x3 := x3.out.size; (try simp only [World.size_alloc] at hz_x3); (try simp only [World.size_setCell] at hz_x3); (try simp only [World.size_alloc] at hz_x3); have k0_x3 : w.heap.size < x3.w.heap.size := (by omega); have j0_x3 : w.heap.size < x3.w.heap.size + 1 := (by omega); have k1_x3 : w.heap.size + 1 < x3.w.heap.size := (by omega); have j1_x3 : w.heap.size + 1 < x3.w.heap.size + 1 := (by omega); have k2_x3 : x1.w.heap.size < x3.w.heap.size := (by omega); have j2_x3 : x1.w.heap.size < x3.w.heap.size + 1 := (by omega)
  go_wp2_with fail
  obtain ⟨X, hX, r0, r1, r2, r3, hb⟩ := x3.set22 (.int .i64 (ratN eN dN)) (.int .i64 (ratD eN dN)) (.int .i64 (ratN nN dN)) (.int .i64 (ratD nN dN)) (B := w.heap.size) (C := w.heap.size + 1) (u0 := .int .i64 0) (u1 := .int .i64 0) (u2 := .int .i64 0) (u3 := .int .i64 0) (by omega) (by simp [go_sem, *]) (by simp [go_sem, *]) (by simp [go_sem, *]) (by simp [go_sem, *])
    (n := w.heap.size) (w := w) (by (repeat' (first | (with_reducible exact Below.refl _ _) | (with_reducible assumption) | (with_reducible refine Below.alloc ?_ ?_ _) | (with_reducible refine Below.drew ?_) | (with_reducible refine below_drewN ?_ _) | (with_reducible refine Below.setCell ?_ ?_ _) | (with_reducible refine below_after ?_ ?_ _) | (with_reducible refine below_set ?_) | (with_reducible refine After.size_le _ ?_) | (with_reducible refine size_alloc_le ?_) | (with_reducible refine size_set_le ?_) | (with_reducible refine size_drewN_le ?_) | go_size))) (Nat.le_refl _) (by omega)
  simp only [← After.set_eq]
  rw [hX]
  exact bodyPost_ret (v := .tuple #[.agg #[.int .i64 (ratN eN dN), .int .i64 (ratD eN dN)], .agg #[.int .i64 (ratN nN dN), .int .i64 (ratD nN dN)], .int .i64 0]) (by simp [results, Tryd.results18, go_sem, r0, r1, r2, r3]) rfl ⟨rfl, hb⟩
end Go.Proofs.YtcaelmaoldmgpaaDoor.Cr
