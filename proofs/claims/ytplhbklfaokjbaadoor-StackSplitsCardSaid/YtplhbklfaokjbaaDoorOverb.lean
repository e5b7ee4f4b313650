/- The reference's over and bedError. The reference's sums over a bed, and its first error. -/
import Derived.Test.YtplhbklfaokjbaaDoorBedm
import Derived.Test.YtplhbklfaokjbaaDoorSrat
namespace Go.Proofs.YtplhbklfaokjbaaDoor
open Go.RowKit
attribute [local go_sem] After.cell After.frozen After.lt After.le After.ne After.ne' After.set_eq After.size_set After.lt_add

theorem sumTo_first (g : Nat → Int) : ∀ m, sumTo g (m + 1) = g 0 + sumTo (fun j => g (j + 1)) m
  | 0 => by simp [sumTo]
  | m + 1 => by
    have := sumTo_first g m
    show sumTo g (m + 1) + g (m + 1) = g 0 + (sumTo (fun j => g (j + 1)) m + g (m + 1))
    omega
/-- How high the course b + m begins above the bed b. -/
def zS (f : Nat → Nat → Int) (b m : Nat) : Int := sumTo (fun j => f (b + j) 0) m
theorem zS_next (f : Nat → Nat → Int) (b m : Nat) : zS f b (m + 1) = zS f b m + f (b + m) 0 := rfl
theorem zS_first (f : Nat → Nat → Int) (b m : Nat) : zS f b (m + 1) = f b 0 + zS f (b + 1) m := by
  unfold zS
  rw [sumTo_first]
  have : (fun j => f (b + (j + 1)) 0) = fun j => f (b + 1 + j) 0 := funext fun j => by rw [show b + (j + 1) = b + 1 + j by omega]
  rw [this]; rfl
/-- A further course on top. -/
theorem bI_more (f : Nat → Nat → Int) : ∀ (m b : Nat), (bI f (b + m + 1) b).wt = (bI f (b + m) b).wt + f (b + m) 3 ∧ (bI f (b + m + 1) b).ea = (bI f (b + m) b).ea + f (b + m) 3 * f (b + m) 4 ∧ (bI f (b + m + 1) b).no = (bI f (b + m) b).no + f (b + m) 3 * f (b + m) 5 ∧
    (bI f (b + m + 1) b).fa = (bI f (b + m) b).fa + f (b + m) 1 * f (b + m) 0 ∧ (bI f (b + m + 1) b).pu = (bI f (b + m) b).pu + f (b + m) 1 * f (b + m) 0 * (2 * zS f b m + f (b + m) 0)
  | 0, b => by
    simp only [Nat.add_zero]
    rw [bI_next (show b < b + 1 by omega), bI_top, bI_top]
    refine ⟨?_, ?_, ?_, ?_, ?_⟩ <;> simp [BedV.onto, zbed, zS, sumTo]
  | m + 1, b => by
    obtain ⟨h1, h2, h3, h4, h5⟩ := bI_more f m (b + 1)
    rw [show b + 1 + m = b + (m + 1) by omega] at h1 h2 h3 h4 h5
    rw [bI_next (show b < b + (m + 1) + 1 by omega), bI_next (show b < b + (m + 1) by omega)]
    simp only [BedV.onto]
    rw [h1, h2, h3, h4, h5, zS_first]
    generalize f (b + (m + 1)) 1 * f (b + (m + 1)) 0 = p
    generalize f (b + (m + 1)) 3 * f (b + (m + 1)) 4 = p2
    generalize f (b + (m + 1)) 3 * f (b + (m + 1)) 5 = p3
    generalize f (b + (m + 1)) 0 = c0
    generalize zS f (b + 1) m = z
    generalize f b 0 = h
    generalize f b 1 * h = q
    generalize (bI f (b + (m + 1)) (b + 1)).fa = fa
    generalize (bI f (b + (m + 1)) (b + 1)).pu = pu
    refine ⟨by omega, by omega, by omega, by omega, ?_⟩
    grind
theorem zS_bd {f : Nat → Nat → Int} {n b m : Nat} (hG : GoodC n f) (h : b + m ≤ n) : 0 ≤ zS f b m ∧ zS f b m ≤ 120000 := by
  have h60 := hG.2.1
  have : 0 ≤ zS f b m ∧ zS f b m ≤ m * 2000 := by
    induction m with
    | zero => simp [zS, sumTo]
    | succ m ih =>
      have := ih (by omega)
      have hk := hG.2.2 (b + m) (by omega)
      unfold OkC InCr at hk
      rw [zS_next]
      omega
  omega
theorem goodC_take {f : Nat → Nat → Int} {n m : Nat} (hG : GoodC n f) (h1 : 1 ≤ m) (h : m ≤ n) : GoodC m f := ⟨h1, Nat.le_trans h hG.2.1, fun k hk => hG.2.2 k (Nat.lt_of_lt_of_le hk h)⟩
/-- The numbers that the reference adds up, in the middle of it. -/
theorem part_bd {f : Nat → Nat → Int} {n b m : Nat} (hG : GoodC n f) (h : b + m ≤ n) :
    0 ≤ (bI f (b + m) b).wt ∧ (bI f (b + m) b).wt ≤ 60000000 ∧ -300000000000 ≤ (bI f (b + m) b).ea ∧ (bI f (b + m) b).ea ≤ 300000000000 ∧ -300000000000 ≤ (bI f (b + m) b).no ∧ (bI f (b + m) b).no ≤ 300000000000 ∧ 0 ≤ (bI f (b + m) b).pu ∧ (bI f (b + m) b).pu ≤ 145200000000000 := by
  rcases Nat.eq_zero_or_pos (b + m) with h0 | h0
  · obtain rfl : b = 0 := by omega
    obtain rfl : m = 0 := by omega
    simp [bI, bT, zbed]
  · obtain ⟨h1, h2, h3, h4, h5, h6, h7, h8, h9, h10⟩ := bI_bd (goodC_take hG h0 h) (k := b) (by omega)
    omega

/-- The four sums in a box. -/
def AbC (W : World) (B : Nat) (x0 x1 x2 x3 : Int) : Prop :=
  W.cell? ⟨B, 0, none⟩ = some (.int .i64 x0) ∧ W.cell? ⟨B, 1, none⟩ = some (.int .i64 x1) ∧ W.cell? ⟨B, 2, none⟩ = some (.int .i64 x2) ∧ W.cell? ⟨B, 3, none⟩ = some (.int .i64 x3) ∧ ∀ o, W.frozen? ⟨B, o, none⟩ = false
theorem ab_new (W : World) : AbC (W.alloc (.cells #[.int .i64 0, .int .i64 0, .int .i64 0, .int .i64 0] 69)) W.heap.size 0 0 0 0 := by
  refine ⟨?_, ?_, ?_, ?_, fun o => ?_⟩
  all_goals simp [go_sem]
theorem AbC.fr {M : Nat → Prop} {W V : World} {B : Nat} {x0 x1 x2 x3 : Int} (h : AbC W B x0 x1 x2 x3) (hW : Fr M W V) (hB : ¬ M B) : AbC V B x0 x1 x2 x3 := by
  have hl : B < W.heap.size := World.block_lt_of_cell? W ⟨B, 0, none⟩ h.1
  obtain ⟨h0, h1, h2, h3, hf⟩ := h
  exact ⟨hW.cell hB h0, hW.cell hB h1, hW.cell hB h2, hW.cell hB h3, fun o => (hW.frozen (p := ⟨B, o, none⟩) hB hl).trans (hf o)⟩
def setAb (w : World) (B : Nat) (x0 x1 x2 x3 : Int) : World :=
  (((w.setCell ⟨B, 0, none⟩ (.int .i64 x0)).setCell ⟨B, 1, none⟩ (.int .i64 x1)).setCell ⟨B, 2, none⟩ (.int .i64 x2)).setCell ⟨B, 3, none⟩ (.int .i64 x3)
theorem setAb_cells {w : World} {B : Nat} {y0 y1 y2 y3 x0 x1 x2 x3 : Int} (h : AbC w B y0 y1 y2 y3) : AbC (setAb w B x0 x1 x2 x3) B x0 x1 x2 x3 := by
  obtain ⟨h0, h1, h2, h3, hf⟩ := h
  unfold setAb
  refine ⟨?_, ?_, ?_, ?_, fun o => ?_⟩
  all_goals simp [go_sem, *]
theorem setAb_fr {M : Nat → Prop} {A w : World} {B : Nat} {x0 x1 x2 x3 : Int} (h : Fr M A w) (hB : M B) : Fr M A (setAb w B x0 x1 x2 x3) := by
  unfold setAb
  iterate 4 refine Fr.setCell ?_ (.inl hB) _
  exact h
end Go.Proofs.YtplhbklfaokjbaaDoor
namespace Go.Proofs.YtplhbklfaokjbaaDoor
open Go.RowKit
attribute [local go_sem] After.lt After.le After.ne After.ne' After.lt_add

def abV (v : BedV) : Value := .agg #[.int .i64 v.wt, .int .i64 v.ea, .int .i64 v.no, .int .i64 v.pu]

set_option maxRecDepth 1000000 in
set_option maxHeartbeats 4000000 in
theorem over_any (b off cap n : Nat) (f : Nat → Nat → Int) (bed : Nat) (w : World) (hb : b < w.heap.size) (hc : CrCells w b off n f) (hG : GoodC n f) (hbed : bed ≤ n) :
    Calls Tryd.prog 60 #[.slice (some ⟨b, off, none⟩) n cap, .int .i64 bed] w fun e w' => e = .returned (abV (bI f n bed)) ∧ Below w.heap.size w w' := by
  have HC := Lib.hid hc
  have HG := Lib.hid hG
  have h60 := hG.2.1
  clear hc hG
  go_enter Tryd.func60, Tryd.ntmps60
  go_wp2
  have a0 : AbC ((w.alloc (.cells #[.int .i64 0, .int .i64 0, .int .i64 0, .int .i64 0] 69)).alloc (.cells #[.int .i64 0, .int .i64 0, .int .i64 0, .int .i64 0] 69)) w.heap.size 0 0 0 0 :=
    (ab_new w).fr (M := fun _ => False) ((Fr.refl _).alloc _) id
  have a1 := ab_new (w.alloc (.cells #[.int .i64 0, .int .i64 0, .int .i64 0, .int .i64 0] 69))
  rw [World.size_alloc] at a1
  go_loopw [6, 7, 8] (fun z i _ wr => ∃ m : Nat, bed + m ≤ n ∧ i = .int .i64 ((bed + m : Nat) : Int) ∧ z = .int .i64 (zS f bed m) ∧ AbC wr w.heap.size 0 0 0 0 ∧ AbC wr (w.heap.size + 1) (bI f (bed + m) bed).wt (bI f (bed + m) bed).ea (bI f (bed + m) bed).no (bI f (bed + m) bed).pu ∧ Below w.heap.size w wr ∧ w.heap.size + 2 ≤ wr.heap.size) (fun _ i _ _ => n - (intOf i).toNat)
  case atStart => exact ⟨0, hbed, rfl, rfl, a0, by rw [show bI f (bed + 0) bed = zbed from bI_top f bed]; exact a1, by (repeat' (first | (with_reducible exact Below.refl _ _) | (with_reducible assumption) | (with_reducible refine Below.alloc ?_ ?_ _) | (with_reducible refine Below.drew ?_) | (with_reducible refine below_drewN ?_ _) | (with_reducible refine Below.setCell ?_ ?_ _) | (with_reducible refine below_after ?_ ?_ _) | (with_reducible refine below_set ?_) | (with_reducible refine After.size_le _ ?_) | (with_reducible refine size_alloc_le ?_) | (with_reducible refine size_set_le ?_) | (with_reducible refine size_drewN_le ?_) | go_size)), by simp⟩
  case round =>
    obtain ⟨m, hm, rfl, rfl, q0, q1, hB, hsz⟩ := hrel
    have hbx : b < wr.heap.size := Nat.lt_of_lt_of_le hb hB.size
    by_cases hlt : bed + m < n
    · obtain ⟨c0, c1, c2, c3, c4, c5⟩ := (HC.out.on hb hB) (bed + m) hlt
      obtain ⟨p1, p2, p3, p4, p5, p6, p7, p8⟩ := part_bd (b := bed) (m := m) HG.out hm
      obtain ⟨z1, z2⟩ := zS_bd (b := bed) (m := m) HG.out hm
      have hk := HG.out.2.2 (bed + m) hlt
      have HM := Lib.hid (bI_more f m bed)
      have HZ := Lib.hid (zS_next f bed m)
      have A0 := Lib.hid q0
      have A1 := Lib.hid q1
      have HBl := Lib.hid hB
      obtain ⟨u0, u1, u2, u3, uf⟩ := q1
      clear q0 hB
      unfold OkC InCr at hk
      generalize (bI f (bed + m) bed).wt = X0 at *
      generalize (bI f (bed + m) bed).ea = X1 at *
      generalize (bI f (bed + m) bed).no = X2 at *
      generalize (bI f (bed + m) bed).pu = X3 at *
      generalize zS f bed m = z at *
      obtain ⟨F, hF⟩ : ∃ F : Nat → Int, f (bed + m) = F := ⟨_, rfl⟩
      rw [hF] at c0 c1 c2 c3 c4 c5 hk HM HZ
      clear hF
      obtain ⟨d0, h0⟩ : ∃ d, F 0 = d := ⟨_, rfl⟩
      obtain ⟨d1, h1⟩ : ∃ d, F 1 = d := ⟨_, rfl⟩
      obtain ⟨d2, h2⟩ : ∃ d, F 2 = d := ⟨_, rfl⟩
      obtain ⟨d3, h3⟩ : ∃ d, F 3 = d := ⟨_, rfl⟩
      obtain ⟨d4, h4⟩ : ∃ d, F 4 = d := ⟨_, rfl⟩
      obtain ⟨d5, h5⟩ : ∃ d, F 5 = d := ⟨_, rfl⟩
      rw [h0] at c0 HM HZ hk
      rw [h1] at c1 HM hk
      rw [h2] at c2 hk
      rw [h3] at c3 HM hk
      rw [h4] at c4 HM hk
      rw [h5] at c5 HM hk
      clear h0 h1 h2 h3 h4 h5
      obtain ⟨g1, g2⟩ := prod_bd (a := d1) (b := d0) (A := 5000) (B := 2000) (by omega) (by omega) (by omega) (by omega)
      obtain ⟨g3, g4⟩ := prod_bd (a := d3) (b := d4) (A := 1000000) (B := 5000) (by omega) (by omega) (by omega) (by omega)
      obtain ⟨g5, g6⟩ := prod_bd (a := d3) (b := d5) (A := 1000000) (B := 5000) (by omega) (by omega) (by omega) (by omega)
      simp only [Int.reduceMul, Int.reduceNeg] at g1 g2 g3 g4 g5 g6
      obtain ⟨g7, g8⟩ := prod_bd (a := d1 * d0) (b := 2 * z + d0) (A := 10000000) (B := 242000) (by omega) (by omega) (by omega) (by omega)
      simp only [Int.reduceMul, Int.reduceNeg] at g7 g8
      have k1 : 0 ≤ d0 ∧ d0 ≤ 2000 := by omega
      have k2 : 0 ≤ d3 ∧ d3 ≤ 1000000 := by omega
      obtain ⟨k1, k1'⟩ := k1
      obtain ⟨k2, k2'⟩ := k2
      have s1 : w.heap.size + 1 < wr.heap.size := by omega
      have hn1 : (bed : Int) + (m : Int) < (n : Int) := by omega
      clear hk
      have AX := setAb_cells (x0 := X0 + d3) (x1 := X1 + d3 * d4) (x2 := X2 + d3 * d5) (x3 := X3 + d1 * d0 * (2 * z + d0)) A1.out
      have AY := A0.out.fr (setAb_fr (x0 := X0 + d3) (x1 := X1 + d3 * d4) (x2 := X2 + d3 * d5) (x3 := X3 + d1 * d0 * (2 * z + d0)) (M := fun i => i = w.heap.size + 1) (Fr.refl wr) rfl) (by omega)
      have BX := HBl.out.trans ((setAb_fr (x0 := X0 + d3) (x1 := X1 + d3 * d4) (x2 := X2 + d3 * d5) (x3 := X3 + d1 * d0 * (2 * z + d0)) (M := fun i => i = w.heap.size + 1) (Fr.refl wr) rfl).below (n := w.heap.size) (by omega) (fun i h => by omega))
      have SX : w.heap.size + 2 ≤ (setAb wr (w.heap.size + 1) (X0 + d3) (X1 + d3 * d4) (X2 + d3 * d5) (X3 + d1 * d0 * (2 * z + d0))).heap.size := by unfold setAb; simp; omega
      obtain ⟨X, hX⟩ : ∃ X, setAb wr (w.heap.size + 1) (X0 + d3) (X1 + d3 * d4) (X2 + d3 * d5) (X3 + d1 * d0 * (2 * z + d0)) = X := ⟨_, rfl⟩
      rw [hX] at AX AY BX SX
      have HAX := Lib.hid (And.intro AX (And.intro AY (And.intro BX SX)))
      clear AX AY BX SX
      unfold setAb at hX
      have HX := Lib.hid hX
      clear hX
      go_wp2
      rw [HX.out]
      obtain ⟨AX, AY, BX, SX⟩ := HAX.out
      obtain ⟨h1, h2, h3, h4, h5⟩ := HM.out
      go_roundw
      case rel =>
        refine ⟨m + 1, by omega, by go_num, by rw [HZ.out], AY.fr (M := fun _ => False) ((Fr.refl _).alloc _) id, ?_, BX.alloc BX.size _, by simp; omega⟩
        show AbC _ _ (bI f (bed + m + 1) bed).wt (bI f (bed + m + 1) bed).ea (bI f (bed + m + 1) bed).no (bI f (bed + m + 1) bed).pu
        rw [h1, h2, h3, h5]
        exact AX.fr (M := fun _ => False) ((Fr.refl _).alloc _) id
      case measure => simp [intOf]; omega
    · obtain rfl : bed + m = n := by omega
      have A0 := Lib.hid q0
      have HBl := Lib.hid hB
      obtain ⟨u0, u1, u2, u3, uf⟩ := q1
      obtain ⟨y0, y1, y2, y3, yf⟩ := q0
      clear hB
      have AX := setAb_cells (x0 := (bI f (bed + m) bed).wt) (x1 := (bI f (bed + m) bed).ea) (x2 := (bI f (bed + m) bed).no) (x3 := (bI f (bed + m) bed).pu) A0.out
      have BX := HBl.out.trans ((setAb_fr (x0 := (bI f (bed + m) bed).wt) (x1 := (bI f (bed + m) bed).ea) (x2 := (bI f (bed + m) bed).no) (x3 := (bI f (bed + m) bed).pu) (M := fun i => i = w.heap.size) (Fr.refl wr) rfl).below (n := w.heap.size) (by omega) (fun i h => by omega))
      obtain ⟨X, hX⟩ : ∃ X, setAb wr w.heap.size (bI f (bed + m) bed).wt (bI f (bed + m) bed).ea (bI f (bed + m) bed).no (bI f (bed + m) bed).pu = X := ⟨_, rfl⟩
      rw [hX] at AX BX
      have HAX := Lib.hid (And.intro AX BX)
      clear AX BX
      unfold setAb at hX
      have HX := Lib.hid hX
      clear hX
      go_wp2
      rw [HX.out]
      obtain ⟨⟨v0, v1, v2, v3, _⟩, BX⟩ := HAX.out
      clear u0 u1 u2 u3 uf y0 y1 y2 y3 yf
      exact bodyPost_ret (v := abV (bI f (bed + m) bed)) (by simp [results, Tryd.results60, go_sem, v0, v1, v2, v3, abV]) rfl ⟨rfl, BX⟩
end Go.Proofs.YtplhbklfaokjbaaDoor
