/- A stack with a course divided: the program. -/
import Derived.Test.YtplhbklfaokjbaaDoorSplitm
import Derived.Deep.DeepCutAuto
namespace Go.Proofs.YtplhbklfaokjbaaDoor
open Go.RowKit
attribute [local go_sem] After.cell After.frozen After.lt After.le After.ne After.ne' After.set_eq After.size_set After.lt_add

/-- Two boxes of the call's own with a course each. -/
def TwoB (w W : World) (bl bu : Nat) (F G : Nat → Int) : Prop := w.heap.size ≤ bl ∧ w.heap.size ≤ bu ∧ bl ≠ bu ∧ FillC W bl 1 (fun _ => F) ∧ FillC W bu 1 (fun _ => G) ∧ Below w.heap.size w W

theorem FillC.off {W : World} {g n : Nat} {f : Nat → Nat → Int} (h : FillC W g n f) {p : Addr} (hp : g ≠ p.block) (v : Value) : FillC (W.setCell p v) g n f :=
  ⟨by simpa using h.lt, fun o => by simpa using h.free o, fun i hi j hj => by
    rw [World.cell?_setCell_other _ _ _ _ (fun e => hp (congrArg Addr.block e).symm)]
    exact h.got i hi j hj⟩
theorem fill1 {W : World} {g : Nat} {F : Nat → Int} (hl : g < W.heap.size) (hf : ∀ o, W.frozen? ⟨g, o, none⟩ = false) (h0 : W.cell? ⟨g, 0, none⟩ = some (.int .i64 (F 0))) (h1 : W.cell? ⟨g, 1, none⟩ = some (.int .i64 (F 1))) (h2 : W.cell? ⟨g, 2, none⟩ = some (.int .i64 (F 2)))
    (h3 : W.cell? ⟨g, 3, none⟩ = some (.int .i64 (F 3))) (h4 : W.cell? ⟨g, 4, none⟩ = some (.int .i64 (F 4))) (h5 : W.cell? ⟨g, 5, none⟩ = some (.int .i64 (F 5))) : FillC W g 1 (fun _ => F) :=
  ⟨hl, hf, fun i hi j hj => by
    obtain rfl : i = 0 := by omega
    rcases (show j = 0 ∨ j = 1 ∨ j = 2 ∨ j = 3 ∨ j = 4 ∨ j = 5 by omega) with rfl | rfl | rfl | rfl | rfl | rfl <;> assumption⟩
theorem FillC.six {W : World} {g : Nat} {F : Nat → Int} (h : FillC W g 1 (fun _ => F)) : W.cell? ⟨g, 0, none⟩ = some (.int .i64 (F 0)) ∧ W.cell? ⟨g, 1, none⟩ = some (.int .i64 (F 1)) ∧ W.cell? ⟨g, 2, none⟩ = some (.int .i64 (F 2)) ∧
    W.cell? ⟨g, 3, none⟩ = some (.int .i64 (F 3)) ∧ W.cell? ⟨g, 4, none⟩ = some (.int .i64 (F 4)) ∧ W.cell? ⟨g, 5, none⟩ = some (.int .i64 (F 5)) :=
  ⟨h.got 0 (by omega) 0 (by omega), h.got 0 (by omega) 1 (by omega), h.got 0 (by omega) 2 (by omega), h.got 0 (by omega) 3 (by omega), h.got 0 (by omega) 4 (by omega), h.got 0 (by omega) 5 (by omega)⟩
theorem CrOwn.base {W : World} {B B' : Nat} {v : Value} {n : Nat} {f : Nat → Nat → Int} (h : CrOwn W B v n f) (hB : B' ≤ B) : CrOwn W B' v n f := by
  obtain ⟨g, cap, e, h1, h2, h3, h4⟩ := h
  exact ⟨g, cap, e, h1, h2, by omega, h4⟩
set_option maxRecDepth 100000 in
theorem split_cat (V : World) (b off o3 p1 p3 n k : Nat) (t : Int) (f : Nat → Nat → Int) (hb : b < V.heap.size) (hc : CrCells V b off n f) (hk : k < n) (hn : n < 60) (ho : 0 < n - (k + 1) → o3 = off + (k + 1) * 6) :
    Calls Tryd.prog 78 #[.slice (some ⟨V.heap.size + 1, 0, none⟩) 3 3] ((V.alloc (.cells #[.int .i64 (loC f k t 0), .int .i64 (loC f k t 1), .int .i64 (loC f k t 2), .int .i64 (loC f k t 3), .int .i64 (loC f k t 4), .int .i64 (loC f k t 5), .int .i64 (upD f k t 0), .int .i64 (upD f k t 1), .int .i64 (upD f k t 2), .int .i64 (upD f k t 3), .int .i64 (upD f k t 4), .int .i64 (upD f k t 5)] 51)).alloc
      (.cells #[.slice (some ⟨b, off, none⟩) k p1, .slice (some ⟨V.heap.size, 0, none⟩) 2 2, .slice (some ⟨b, o3, none⟩) (n - (k + 1)) p3] 22)).drew fun e w' => ∃ v, e = .returned v ∧ CrOwn w' V.heap.size v (n + 1) (spC f k t) ∧ Below V.heap.size V w' := by
  obtain ⟨X, hX⟩ : ∃ X, ((V.alloc (.cells #[.int .i64 (loC f k t 0), .int .i64 (loC f k t 1), .int .i64 (loC f k t 2), .int .i64 (loC f k t 3), .int .i64 (loC f k t 4), .int .i64 (loC f k t 5), .int .i64 (upD f k t 0), .int .i64 (upD f k t 1), .int .i64 (upD f k t 2), .int .i64 (upD f k t 3), .int .i64 (upD f k t 4), .int .i64 (upD f k t 5)] 51)).alloc
      (.cells #[.slice (some ⟨b, off, none⟩) k p1, .slice (some ⟨V.heap.size, 0, none⟩) 2 2, .slice (some ⟨b, o3, none⟩) (n - (k + 1)) p3] 22)).drew = X := ⟨_, rfl⟩
  have hB : Below V.heap.size V X := by rw [← hX]; (repeat' (first | (with_reducible exact Below.refl _ _) | (with_reducible assumption) | (with_reducible refine Below.alloc ?_ ?_ _) | (with_reducible refine Below.drew ?_) | (with_reducible refine below_drewN ?_ _) | (with_reducible refine Below.setCell ?_ ?_ _) | (with_reducible refine below_after ?_ ?_ _) | (with_reducible refine below_set ?_) | (with_reducible refine After.size_le _ ?_) | (with_reducible refine size_alloc_le ?_) | (with_reducible refine size_set_le ?_) | (with_reducible refine size_drewN_le ?_) | go_size))
  have hs : X.heap.size = V.heap.size + 2 := by rw [← hX]; simp
  have c0 : X.cell? ⟨V.heap.size + 1, 0, none⟩ = some (.slice (some ⟨b, off, none⟩) k p1) := by rw [← hX]; simp [go_sem]
  have c1 : X.cell? ⟨V.heap.size + 1, 1, none⟩ = some (.slice (some ⟨V.heap.size, 0, none⟩) 2 2) := by rw [← hX]; simp [go_sem]
  have c2 : X.cell? ⟨V.heap.size + 1, 2, none⟩ = some (.slice (some ⟨b, o3, none⟩) (n - (k + 1)) p3) := by rw [← hX]; simp [go_sem]
  have ht : CrCells X V.heap.size 0 2 (twoC f k t) := fun i hi => by
    rw [← hX]
    rcases (show i = 0 ∨ i = 1 by omega) with rfl | rfl
    · simp [go_sem, twoC]
    · simp [go_sem, twoC]
  rw [hX]
  clear hX
  have hcX := crCells_iff.1 (hc.on hb hB)
  have h := concat3 b off p1 k V.heap.size 0 2 2 b o3 p3 (n - (k + 1)) f (twoC f k t) (fun i => f (k + 1 + i)) (V.heap.size + 1) X (by omega) c0 c1 c2
    ⟨by omega, crCells_iff.2 fun i hi j hj => hcX i (by omega) j hj⟩ ⟨by omega, ht⟩
    ⟨by omega, crCells_iff.2 fun i hi j hj => by
      rw [ho (by omega), show off + (k + 1) * 6 + (i * 6 + j) = off + ((k + 1 + i) * 6 + j) by omega]
      exact hcX (k + 1 + i) (by omega) j hj⟩ (by omega) (by omega)
  refine h.mono ?_
  rintro e w' ⟨v, rfl, h1, h2⟩
  rw [show n - (k + 1) = n - k - 1 by omega, sp_list t hk, show k + 2 + (n - k - 1) = n + 1 by omega] at h1
  exact ⟨v, rfl, (crOwn_of h1 (by omega)).base (by omega), hB.trans (h2.mono hB.size)⟩
set_option maxRecDepth 100000 in
set_option maxHeartbeats 2000000 in
theorem split_ok (b off cap n : Nat) (f : Nat → Nat → Int) (k : Nat) (t : Int) (w : World) (hb : b < w.heap.size) (hn : n < 60) (hm : n ≤ cap) (hmm : cap ≤ 9223372036854775807) (hc : CrCells w b off n f) (hk : k < n) (hO : OkC f k) (h1 : 1 ≤ t) (h2 : t ≤ f k 0 - 1) (h0 : loW f k t ≠ 0)
    (ha : CSay w (.slice (some ⟨b, off, none⟩) n cap) true) :
    Calls Tryd.prog 47 #[.slice (some ⟨b, off, none⟩) n cap, .int .i64 k, .int .i64 t] w fun x w' => ∃ v, x = .returned (.tuple #[v, .int .i64 0]) ∧ CrOwn w' w.heap.size v (n + 1) (spC f k t) ∧ Below w.heap.size w w' := by
  have HA : Hid (∀ W, Below w.heap.size w W → _) := ha
  have HC := Lib.hid (fun W (hW : Below w.heap.size w W) => hc.on hb hW)
  have HB1 := Lib.hid (between_any (k : Nat) 0 ((n : Int) - 1))
  rw [decide_eq_true (by unfold Btw; omega)] at HB1
  have HB2 := Lib.hid (between_any t 1 (f k 0 - 1))
  rw [decide_eq_true (by unfold Btw; omega)] at HB2
  obtain ⟨g1, g2, g3, g4⟩ := loW_bd hO h1 h2
  obtain ⟨L, hL⟩ : ∃ L, f k 3 * t / f k 0 = L := ⟨_, rfl⟩
  rw [show loW f k t = L from hL] at g1 g2 h0
  have L0 : (L == 0) = false := by simpa using h0
  have n60 : ((n : Int) == 60) = false := by rw [beq_eq_false_iff_ne]; omega
  have hO' := hO
  unfold OkC InCr at hO'
  obtain ⟨c0, c1, c2, c3, c4, c5⟩ := hc k hk
  have hk' : (k : Int) < (n : Int) := by omega
  have hk2 : (k : Int) ≤ (cap : Int) := by omega
  have hk3 : (k : Int) + 1 ≤ (n : Int) := by omega
  have hk4 : (n : Int) ≤ (cap : Int) := by omega
  clear ha hc
  go_enter Tryd.func47, Tryd.ntmps47
  (go_wp2_with fail); refine calls_after (HA.out _ (by (repeat' (first | (with_reducible exact Below.refl _ _) | (with_reducible assumption) | (with_reducible refine Below.alloc ?_ ?_ _) | (with_reducible refine Below.drew ?_) | (with_reducible refine below_drewN ?_ _) | (with_reducible refine Below.setCell ?_ ?_ _) | (with_reducible refine below_after ?_ ?_ _) | (with_reducible refine below_set ?_) | (with_reducible refine After.size_le _ ?_) | (with_reducible refine size_alloc_le ?_) | (with_reducible refine size_set_le ?_) | (with_reducible refine size_drewN_le ?_) | go_size)))) ?_; intro x1; have hz_x1 := x1.out.size; (try simp only [World.size_alloc] at hz_x1); (try simp only [World.size_setCell] at hz_x1); (try simp only [World.size_alloc] at hz_x1); have k0_x1 : b < x1.w.heap.size := (by omega); have j0_x1 : b < x1.w.heap.size + 1 := (by omega)
  (go_wp2_with fail); refine calls_after2 (HB1.out _) ?_; intro x2; have hz_x2 := x2.out.size; (try simp only [World.size_alloc] at hz_x2); (try simp only [World.size_setCell] at hz_x2); (try simp only [World.size_alloc] at hz_x2); have k0_x2 : b < x2.w.heap.size := (by omega); have j0_x2 : b < x2.w.heap.size + 1 := (by omega)
  (go_wp2_with fail); refine calls_after2 (HB2.out _) ?_; intro x3; have hz_x3 := x3.out.size; (try simp only [World.size_alloc] at hz_x3); (try simp only [World.size_setCell] at hz_x3); (try simp only [World.size_alloc] at hz_x3); have k0_x3 : b < x3.w.heap.size := (by omega); have j0_x3 : b < x3.w.heap.size + 1 := (by omega)
  go_upto_region 5 with (fail)
  go_cut [8, 9] (fun s u wx => ∃ bl bu, s = .pointer (some ⟨bl, 0, none⟩) ∧ u = .pointer (some ⟨bu, 0, none⟩) ∧ TwoB w wx bl bu (f k) (f k))
  case first =>
    clear g1 g2 g3 g4 h0 h1 h2 HA HC HB1 HB2
    go_region
    all_goals
      go_wp2
      go_meet
      case rel => exact ⟨_, _, rfl, rfl, by first | omega | (simp; omega), by first | omega | (simp; omega), by first | omega | (simp; done) | (simp; omega),
        fill1 (by first | (simp; done) | (simp; omega)) (by intro o; simp [go_sem]) (by simp [go_sem]) (by simp [go_sem]) (by simp [go_sem]) (by simp [go_sem]) (by simp [go_sem]) (by simp [go_sem]),
        fill1 (by first | (simp; done) | (simp; omega)) (by intro o; simp [go_sem]) (by simp [go_sem]) (by simp [go_sem]) (by simp [go_sem]) (by simp [go_sem]) (by simp [go_sem]) (by simp [go_sem]), by (repeat' (first | (with_reducible exact Below.refl _ _) | (with_reducible assumption) | (with_reducible refine Below.alloc ?_ ?_ _) | (with_reducible refine Below.drew ?_) | (with_reducible refine below_drewN ?_ _) | (with_reducible refine Below.setCell ?_ ?_ _) | (with_reducible refine below_after ?_ ?_ _) | (with_reducible refine below_set ?_) | (with_reducible refine After.size_le _ ?_) | (with_reducible refine size_alloc_le ?_) | (with_reducible refine size_set_le ?_) | (with_reducible refine size_drewN_le ?_) | go_size))⟩
  case rest =>
    obtain ⟨bl, bu, rfl, rfl, q1, q2, q3, q4, q5, q6⟩ := hcut
    have q4l := q4.lt
    have q5l := q5.lt
    obtain ⟨r0, r1, r2, r3, r4, r5⟩ := q4.six
    obtain ⟨s0, s1, s2, s3, s4, s5⟩ := q5.six
    have fl := q4.free
    have fu := q5.free
    have q3' := Ne.symm q3
    have Q4 := Lib.hid q4
    have Q5 := Lib.hid q5
    have Q6 := Lib.hid q6
    clear q4 q5 q6
    go_wp2_with fail
    go_region
    go_wp2_with fail
    go_region
    go_wp2_with fail
    obtain ⟨V, hV⟩ : ∃ V, ((((wc.setCell ⟨bl, 0, none⟩ (.int .i64 t)).setCell ⟨bl, 3, none⟩ (.int .i64 L)).setCell ⟨bu, 0, none⟩ (.int .i64 (f k 0 - t))).setCell ⟨bu, 3, none⟩ (.int .i64 (f k 3 - L))).drew.drew = V := ⟨_, rfl⟩
    have V4 : FillC V bl 1 (fun _ => loC f k t) := by
      rw [← hV]
      refine FillC.below ?_ (((Below.refl _ _).drew).drew)
      exact (((Q4.out.set t (k := 0) (j := 0) (by omega) (by omega)).set L (k := 0) (j := 3) (by omega) (by omega)).off q3 _).off q3 _ |>.congr fun i j hi hj => by
        obtain rfl : i = 0 := by omega
        rcases (show j = 0 ∨ j = 1 ∨ j = 2 ∨ j = 3 ∨ j = 4 ∨ j = 5 by omega) with rfl | rfl | rfl | rfl | rfl | rfl <;> simp [upC, loC, loW, hL]
    have V5 : FillC V bu 1 (fun _ => upD f k t) := by
      rw [← hV]
      refine FillC.below ?_ (((Below.refl _ _).drew).drew)
      exact ((((Q5.out.off q3' _).off q3' _).set (f k 0 - t) (k := 0) (j := 0) (by omega) (by omega)).set (f k 3 - L) (k := 0) (j := 3) (by omega) (by omega)).congr fun i j hi hj => by
        obtain rfl : i = 0 := by omega
        rcases (show j = 0 ∨ j = 1 ∨ j = 2 ∨ j = 3 ∨ j = 4 ∨ j = 5 by omega) with rfl | rfl | rfl | rfl | rfl | rfl <;> simp [upC, upD, loW, hL]
    have V6 : Below w.heap.size w V := by
      rw [← hV]
      exact (((((Q6.out.setCell (p := ⟨bl, _, none⟩) q1 _).setCell (p := ⟨bl, _, none⟩) q1 _).setCell (p := ⟨bu, _, none⟩) q2 _).setCell (p := ⟨bu, _, none⟩) q2 _).drew).drew
    rw [hV]
    have vl := V4.lt
    have vu := V5.lt
    obtain ⟨y0, y1, y2, y3, y4, y5⟩ := V4.six
    obtain ⟨z0, z1, z2, z3, z4, z5⟩ := V5.six
    have hbV : b < V.heap.size := Nat.lt_of_lt_of_le hb V6.size
    clear hV r0 r1 r2 r3 r4 r5 s0 s1 s2 s3 s4 s5 Q4 Q5 Q6 fl fu q4l q5l
    have hw1 : IntKind.i64.wrap ((k : Int) + 1) = (k : Int) + 1 := by rw [IntKind.wrap_i64]; omega
    have hcV := HC.out V V6
    have V6' := Lib.hid V6
    have hk5 : (0 : Int) ≤ (k : Int) + 1 := by omega
    have hk6 : (0 : Int) ≤ (k : Int) := by omega
    have hk7 : (0 : Int) ≤ (n : Int) := by omega
    by_cases hcp : cap = k + 1
    · have hk8 : (k : Int) ≤ (k : Int) + 1 := by omega
      have hk9 : (n : Int) ≤ (k : Int) + 1 := by omega
      have hkm : k ≤ k + 1 := by omega
      have HK := Lib.hid (split_cat V b off off (k + 1) 0 n k t f hbV hcV hk hn (fun h => by omega))
      clear hcV HC V4 V5 V6
      go_region_held3 (fun w' => w'.cell? ⟨bl, 0, none⟩ = some (.int .i64 (loC f k t 0)) ∧ w'.cell? ⟨bl, 1, none⟩ = some (.int .i64 (loC f k t 1)) ∧ w'.cell? ⟨bl, 2, none⟩ = some (.int .i64 (loC f k t 2)) ∧ w'.cell? ⟨bl, 3, none⟩ = some (.int .i64 (loC f k t 3)) ∧ w'.cell? ⟨bl, 4, none⟩ = some (.int .i64 (loC f k t 4)) ∧ w'.cell? ⟨bl, 5, none⟩ = some (.int .i64 (loC f k t 5)) ∧ w'.cell? ⟨bu, 0, none⟩ = some (.int .i64 (upD f k t 0)) ∧ w'.cell? ⟨bu, 1, none⟩ = some (.int .i64 (upD f k t 1)) ∧ w'.cell? ⟨bu, 2, none⟩ = some (.int .i64 (upD f k t 2)) ∧ w'.cell? ⟨bu, 3, none⟩ = some (.int .i64 (upD f k t 3)) ∧ w'.cell? ⟨bu, 4, none⟩ = some (.int .i64 (upD f k t 4)) ∧ w'.cell? ⟨bu, 5, none⟩ = some (.int .i64 (upD f k t 5)))
        (first | (exact ⟨(hb5.cell (p := ⟨bl, 0, none⟩) vl).trans y0, (hb5.cell (p := ⟨bl, 1, none⟩) vl).trans y1, (hb5.cell (p := ⟨bl, 2, none⟩) vl).trans y2, (hb5.cell (p := ⟨bl, 3, none⟩) vl).trans y3, (hb5.cell (p := ⟨bl, 4, none⟩) vl).trans y4, (hb5.cell (p := ⟨bl, 5, none⟩) vl).trans y5, (hb5.cell (p := ⟨bu, 0, none⟩) vu).trans z0, (hb5.cell (p := ⟨bu, 1, none⟩) vu).trans z1, (hb5.cell (p := ⟨bu, 2, none⟩) vu).trans z2, (hb5.cell (p := ⟨bu, 3, none⟩) vu).trans z3, (hb5.cell (p := ⟨bu, 4, none⟩) vu).trans z4, (hb5.cell (p := ⟨bu, 5, none⟩) vu).trans z5⟩) | go_keep)
        ((go_at_call 78; refine HK.out.mono ?_; rintro e w5 ⟨v5, rfl, hown5, hb5⟩; have HO5 := Lib.hid hown5; clear hown5))
      all_goals
        go_wp2
        go_returns
        exact ⟨_, rfl, HO5.out.base V6'.out.size, V6'.out.trans (hb5.mono V6'.out.size)⟩
    · have HK := Lib.hid (split_cat V b off (off + (k + 1) * 6) cap (cap - (k + 1)) n k t f hbV hcV hk hn (fun _ => rfl))
      clear hcV HC V4 V5 V6
      go_region_held3 (fun w' => w'.cell? ⟨bl, 0, none⟩ = some (.int .i64 (loC f k t 0)) ∧ w'.cell? ⟨bl, 1, none⟩ = some (.int .i64 (loC f k t 1)) ∧ w'.cell? ⟨bl, 2, none⟩ = some (.int .i64 (loC f k t 2)) ∧ w'.cell? ⟨bl, 3, none⟩ = some (.int .i64 (loC f k t 3)) ∧ w'.cell? ⟨bl, 4, none⟩ = some (.int .i64 (loC f k t 4)) ∧ w'.cell? ⟨bl, 5, none⟩ = some (.int .i64 (loC f k t 5)) ∧ w'.cell? ⟨bu, 0, none⟩ = some (.int .i64 (upD f k t 0)) ∧ w'.cell? ⟨bu, 1, none⟩ = some (.int .i64 (upD f k t 1)) ∧ w'.cell? ⟨bu, 2, none⟩ = some (.int .i64 (upD f k t 2)) ∧ w'.cell? ⟨bu, 3, none⟩ = some (.int .i64 (upD f k t 3)) ∧ w'.cell? ⟨bu, 4, none⟩ = some (.int .i64 (upD f k t 4)) ∧ w'.cell? ⟨bu, 5, none⟩ = some (.int .i64 (upD f k t 5)))
        (first | (exact ⟨(hb5.cell (p := ⟨bl, 0, none⟩) vl).trans y0, (hb5.cell (p := ⟨bl, 1, none⟩) vl).trans y1, (hb5.cell (p := ⟨bl, 2, none⟩) vl).trans y2, (hb5.cell (p := ⟨bl, 3, none⟩) vl).trans y3, (hb5.cell (p := ⟨bl, 4, none⟩) vl).trans y4, (hb5.cell (p := ⟨bl, 5, none⟩) vl).trans y5, (hb5.cell (p := ⟨bu, 0, none⟩) vu).trans z0, (hb5.cell (p := ⟨bu, 1, none⟩) vu).trans z1, (hb5.cell (p := ⟨bu, 2, none⟩) vu).trans z2, (hb5.cell (p := ⟨bu, 3, none⟩) vu).trans z3, (hb5.cell (p := ⟨bu, 4, none⟩) vu).trans z4, (hb5.cell (p := ⟨bu, 5, none⟩) vu).trans z5⟩) | go_keep)
        ((go_at_call 78; refine HK.out.mono ?_; rintro e w5 ⟨v5, rfl, hown5, hb5⟩; have HO5 := Lib.hid hown5; clear hown5))
      all_goals
        go_wp2
        go_returns
        exact ⟨_, rfl, HO5.out.base V6'.out.size, V6'.out.trans (hb5.mono V6'.out.size)⟩
end Go.Proofs.YtplhbklfaokjbaaDoor
