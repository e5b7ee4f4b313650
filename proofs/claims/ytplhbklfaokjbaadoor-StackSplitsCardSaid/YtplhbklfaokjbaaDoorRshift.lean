/- A stack shifted: the reference. A stack shifted: the program. -/
import Derived.Test.YtplhbklfaokjbaaDoorTurnm
namespace Go.Proofs.YtplhbklfaokjbaaDoor
open Go.RowKit
attribute [local go_sem] After.cell After.frozen After.lt After.le After.ne After.ne' After.set_eq After.size_set After.lt_add

def ShIn (x y : Int) : Prop := Btw x (-10000) 10000 ∧ Btw y (-10000) 10000
instance (x y : Int) : Decidable (ShIn x y) := by unfold ShIn; infer_instance
set_option maxRecDepth 100000 in
set_option maxHeartbeats 1000000 in
theorem validMiddle_any (h o i t x y : Int) (w : World) :
    Calls Tryd.prog 80 #[.agg #[.int .i64 h, .int .i64 o, .int .i64 i, .int .i64 t, .int .i64 x, .int .i64 y]] w fun e w' => e = .returned (.bool (decide (MidOk x y))) ∧ Below w.heap.size w w' := by
  go_enter Tryd.func80, Tryd.ntmps80
  go_wp2
  all_goals
    go_ret
    exact ⟨ret_dec (by unfold MidOk; simp; omega), by go_grown⟩

set_option maxRecDepth 100000 in
set_option maxHeartbeats 400000 in
theorem shifted_bad (v : Value) (x y : Int) (w : World) (ha : CSay w v false) :
    Calls Tryd.prog 51 #[v, .int .i64 x, .int .i64 y] w fun r w' => r = .returned (.tuple #[.slice none 0 0, .int .i64 1]) ∧ Below w.heap.size w w' := by
  have HA : Hid (∀ W, Below w.heap.size w W → _) := ha
  clear ha
  go_enter Tryd.func51, Tryd.ntmps51
  (go_wp2_with fail); refine calls_after (HA.out _ (by (repeat' (first | (with_reducible exact Below.refl _ _) | (with_reducible assumption) | (with_reducible refine Below.alloc ?_ ?_ _) | (with_reducible refine Below.drew ?_) | (with_reducible refine below_drewN ?_ _) | (with_reducible refine Below.setCell ?_ ?_ _) | (with_reducible refine below_after ?_ ?_ _) | (with_reducible refine below_set ?_) | (with_reducible refine After.size_le _ ?_) | (with_reducible refine size_alloc_le ?_) | (with_reducible refine size_set_le ?_) | (with_reducible refine size_drewN_le ?_) | go_size)))) ?_; intro x1
  go_wp2
  go_returns
  exact ⟨rfl, by (repeat' (first | (with_reducible exact Below.refl _ _) | (with_reducible assumption) | (with_reducible refine Below.alloc ?_ ?_ _) | (with_reducible refine Below.drew ?_) | (with_reducible refine below_drewN ?_ _) | (with_reducible refine Below.setCell ?_ ?_ _) | (with_reducible refine below_after ?_ ?_ _) | (with_reducible refine below_set ?_) | (with_reducible refine After.size_le _ ?_) | (with_reducible refine size_alloc_le ?_) | (with_reducible refine size_set_le ?_) | (with_reducible refine size_drewN_le ?_) | go_size))⟩
set_option maxRecDepth 100000 in
set_option maxHeartbeats 400000 in
theorem shifted_far (v : Value) (x y : Int) (w : World) (ha : CSay w v true) (hn : ¬ ShIn x y) :
    Calls Tryd.prog 51 #[v, .int .i64 x, .int .i64 y] w fun r w' => r = .returned (.tuple #[.slice none 0 0, .int .i64 7]) ∧ Below w.heap.size w w' := by
  have HA : Hid (∀ W, Below w.heap.size w W → _) := ha
  have H1 := Lib.hid (between_any x (-10000) 10000)
  have H2 := Lib.hid (between_any y (-10000) 10000)
  clear ha
  by_cases hx : Btw x (-10000) 10000
  · have hy : ¬ Btw y (-10000) 10000 := fun h => hn ⟨hx, h⟩
    rw [decide_eq_true hx] at H1
    rw [decide_eq_false hy] at H2
    clear hx hy hn
    go_enter Tryd.func51, Tryd.ntmps51
    (go_wp2_with fail); refine calls_after (HA.out _ (by (repeat' (first | (with_reducible exact Below.refl _ _) | (with_reducible assumption) | (with_reducible refine Below.alloc ?_ ?_ _) | (with_reducible refine Below.drew ?_) | (with_reducible refine below_drewN ?_ _) | (with_reducible refine Below.setCell ?_ ?_ _) | (with_reducible refine below_after ?_ ?_ _) | (with_reducible refine below_set ?_) | (with_reducible refine After.size_le _ ?_) | (with_reducible refine size_alloc_le ?_) | (with_reducible refine size_set_le ?_) | (with_reducible refine size_drewN_le ?_) | go_size)))) ?_; intro x1
    (go_wp2_with fail); refine calls_after2 (H1.out _) ?_; intro x2
    (go_wp2_with fail); refine calls_after2 (H2.out _) ?_; intro x3
    go_wp2
    go_returns
    exact ⟨rfl, by (repeat' (first | (with_reducible exact Below.refl _ _) | (with_reducible assumption) | (with_reducible refine Below.alloc ?_ ?_ _) | (with_reducible refine Below.drew ?_) | (with_reducible refine below_drewN ?_ _) | (with_reducible refine Below.setCell ?_ ?_ _) | (with_reducible refine below_after ?_ ?_ _) | (with_reducible refine below_set ?_) | (with_reducible refine After.size_le _ ?_) | (with_reducible refine size_alloc_le ?_) | (with_reducible refine size_set_le ?_) | (with_reducible refine size_drewN_le ?_) | go_size))⟩
  · rw [decide_eq_false hx] at H1
    clear hx hn
    go_enter Tryd.func51, Tryd.ntmps51
    (go_wp2_with fail); refine calls_after (HA.out _ (by (repeat' (first | (with_reducible exact Below.refl _ _) | (with_reducible assumption) | (with_reducible refine Below.alloc ?_ ?_ _) | (with_reducible refine Below.drew ?_) | (with_reducible refine below_drewN ?_ _) | (with_reducible refine Below.setCell ?_ ?_ _) | (with_reducible refine below_after ?_ ?_ _) | (with_reducible refine below_set ?_) | (with_reducible refine After.size_le _ ?_) | (with_reducible refine size_alloc_le ?_) | (with_reducible refine size_set_le ?_) | (with_reducible refine size_drewN_le ?_) | go_size)))) ?_; intro x1
    (go_wp2_with fail); refine calls_after2 (H1.out _) ?_; intro x2
    go_wp2
    go_returns
    exact ⟨rfl, by (repeat' (first | (with_reducible exact Below.refl _ _) | (with_reducible assumption) | (with_reducible refine Below.alloc ?_ ?_ _) | (with_reducible refine Below.drew ?_) | (with_reducible refine below_drewN ?_ _) | (with_reducible refine Below.setCell ?_ ?_ _) | (with_reducible refine below_after ?_ ?_ _) | (with_reducible refine below_set ?_) | (with_reducible refine After.size_le _ ?_) | (with_reducible refine size_alloc_le ?_) | (with_reducible refine size_set_le ?_) | (with_reducible refine size_drewN_le ?_) | go_size))⟩

/-- The answer of a shift. -/
def ShAns (w' : World) (B : Nat) (n : Nat) (f : Nat → Nat → Int) (x y : Int) (r : Ending) : Prop :=
  (ShOk n f x y ∧ ∃ v, r = .returned (.tuple #[v, .int .i64 0]) ∧ CrOwn w' B v n (shC f x y)) ∨ (¬ ShOk n f x y ∧ r = .returned (.tuple #[.slice none 0 0, .int .i64 4]))
set_option maxRecDepth 100000 in
set_option maxHeartbeats 2000000 in
theorem shifted_ok (b off cap n : Nat) (f : Nat → Nat → Int) (x y : Int) (w : World) (hb : b < w.heap.size) (h1 : 1 ≤ n) (hn : n ≤ 60) (hc : CrCells w b off n f) (hbd : BdC n f) (hs : ShIn x y)
    (ha : CSay w (.slice (some ⟨b, off, none⟩) n cap) true) :
    Calls Tryd.prog 51 #[.slice (some ⟨b, off, none⟩) n cap, .int .i64 x, .int .i64 y] w fun r w' => ShAns w' w.heap.size n f x y r ∧ Below w.heap.size w w' := by
  have HA : Hid (∀ W, Below w.heap.size w W → _) := ha
  have HK : Hid (∀ W, Below w.heap.size w W → _) := fun W hW => cloneC_any b off cap n f W (Nat.lt_of_lt_of_le hb hW.size) h1 (by omega) (hc.on hb hW)
  have H1 := Lib.hid (between_any x (-10000) 10000)
  have H2 := Lib.hid (between_any y (-10000) 10000)
  rw [decide_eq_true hs.1] at H1
  rw [decide_eq_true hs.2] at H2
  obtain ⟨⟨sx1, sx2⟩, sy1, sy2⟩ := hs
  clear ha hc
  go_enter Tryd.func51, Tryd.ntmps51
  (go_wp2_with fail); refine calls_after (HA.out _ (by (repeat' (first | (with_reducible exact Below.refl _ _) | (with_reducible assumption) | (with_reducible refine Below.alloc ?_ ?_ _) | (with_reducible refine Below.drew ?_) | (with_reducible refine below_drewN ?_ _) | (with_reducible refine Below.setCell ?_ ?_ _) | (with_reducible refine below_after ?_ ?_ _) | (with_reducible refine below_set ?_) | (with_reducible refine After.size_le _ ?_) | (with_reducible refine size_alloc_le ?_) | (with_reducible refine size_set_le ?_) | (with_reducible refine size_drewN_le ?_) | go_size)))) ?_; intro x1
  (go_wp2_with fail); refine calls_after2 (H1.out _) ?_; intro x2
  (go_wp2_with fail); refine calls_after2 (H2.out _) ?_; intro x3
  go_wp2_with fail
  refine (HK.out _ (by (repeat' (first | (with_reducible exact Below.refl _ _) | (with_reducible assumption) | (with_reducible refine Below.alloc ?_ ?_ _) | (with_reducible refine Below.drew ?_) | (with_reducible refine below_drewN ?_ _) | (with_reducible refine Below.setCell ?_ ?_ _) | (with_reducible refine below_after ?_ ?_ _) | (with_reducible refine below_set ?_) | (with_reducible refine After.size_le _ ?_) | (with_reducible refine size_alloc_le ?_) | (with_reducible refine size_set_le ?_) | (with_reducible refine size_drewN_le ?_) | go_size)))).mono ?_
  rintro e w1 ⟨v, rfl, ⟨g, c2, rfl, hcap, hcm, hg, hfill⟩, hb1⟩
  have hbel := x3.out.trans (hb1.mono x3.out.size)
  have hgw : w.heap.size ≤ g := Nat.le_trans x3.out.size hg
  clear HK hb1 hg
  have HF := Lib.hid hfill
  have HB := Lib.hid hbel
  clear hfill hbel
  go_wp2
  go_loopw [27] (fun i wr => ∃ k : Nat, k ≤ n ∧ i = .int .i64 k ∧ (∀ j, j < k → MidOk (f j 4 + x) (f j 5 + y)) ∧ FillC wr g n (shK f x y k) ∧ Below w.heap.size w wr) (fun i _ => n - (intOf i).toNat)
  case atStart => exact ⟨0, by omega, rfl, fun j hj => absurd hj (by omega), by rw [shK_zero]; exact HF.out, HB.out⟩
  case round =>
    obtain ⟨k, hk, rfl, hm, hfill, hbel⟩ := hrel
    have HMk := Lib.hid hm
    clear hm
    by_cases hlt : k < n
    · have HS := Lib.hid (hfill.shift hlt)
      have HBV := Lib.hid hbel
      obtain ⟨-, -, -, -, c4, c5⟩ := hfill.cells k hlt
      simp only [Nat.zero_add] at c4 c5
      have hgl := hfill.lt
      have fr := hfill.free
      obtain ⟨⟨b1, b2⟩, b3, b4⟩ := hbd k hlt
      have eu : ∀ j, shK f x y k k j = f k j := fun j => by simp [shK]
      rw [eu] at c4 c5
      clear eu hfill hbel HF HB
      have e4 : shK f x y (k + 1) k 4 = f k 4 + x := by simp [shK, shC]
      have e5 : shK f x y (k + 1) k 5 = f k 5 + y := by simp [shK, shC]
      obtain ⟨X, hX⟩ : ∃ X, (wr.setCell ⟨g, k * 6 + 4, none⟩ (.int .i64 (f k 4 + x))).setCell ⟨g, k * 6 + 5, none⟩ (.int .i64 (f k 5 + y)) = X := ⟨_, rfl⟩
      have hXb : Below w.heap.size w X := by rw [← hX]; exact (HBV.out.setCell (p := ⟨g, _, none⟩) hgw _).setCell (p := ⟨g, _, none⟩) hgw _
      rw [hX] at HS
      obtain ⟨d0, d1, d2, d3, d4, d5⟩ := HS.out.cells k hlt
      simp only [Nat.zero_add] at d0 d1 d2 d3 d4 d5
      rw [e4] at d4
      rw [e5] at d5
      have hgX := HS.out.lt
      have HV := Lib.hid (fun W => validMiddle_any (shK f x y (k + 1) k 0) (shK f x y (k + 1) k 1) (shK f x y (k + 1) k 2) (shK f x y (k + 1) k 3) (f k 4 + x) (f k 5 + y) W)
      clear e4 e5
      generalize shK f x y (k + 1) k 0 = r0 at *
      generalize shK f x y (k + 1) k 1 = r1 at *
      generalize shK f x y (k + 1) k 2 = r2 at *
      generalize shK f x y (k + 1) k 3 = r3 at *
      have HXb := Lib.hid hXb
      have HX := Lib.hid hX
      clear hX hXb
      by_cases hM : MidOk (f k 4 + x) (f k 5 + y)
      · have HM1 := Lib.hid hM
        rw [decide_eq_true hM] at HV
        clear hM
        go_wp2_with (rw [HX.out])
        refine (HV.out _).mono ?_
        rintro e w2 ⟨rfl, hb2⟩
        have hB2 := Lib.hid (HXb.out.trans (hb2.mono HXb.out.size))
        have hF2 := Lib.hid (HS.out.below hb2)
        clear hb2
        go_wp2
        go_roundw
        case rel => exact ⟨k + 1, by omega, by go_num, fun j hj => by
          rcases Nat.lt_or_ge j k with h | h
          · exact HMk.out j h
          · rw [show j = k by omega]; exact HM1.out, hF2.out, hB2.out⟩
        case measure => simp [intOf]; omega
      · have HM1 : Hid (¬ ShOk n f x y) := Lib.hid (fun h => hM (h k hlt))
        rw [decide_eq_false hM] at HV
        clear hM
        go_wp2_with (rw [HX.out])
        refine (HV.out _).mono ?_
        rintro e w2 ⟨rfl, hb2⟩
        have hB2 := Lib.hid (HXb.out.trans (hb2.mono HXb.out.size))
        clear hb2
        go_wp2
        go_returns
        exact ⟨.inr ⟨HM1.out, rfl⟩, hB2.out⟩
    · obtain rfl : n = k := by omega
      have HFi := Lib.hid hfill.shifted
      have HBe := Lib.hid hbel
      clear hfill hbel
      go_wp2
      go_returns
      exact ⟨.inl ⟨HMk.out, _, rfl, ⟨g, c2, rfl, hcap, hcm, hgw, HFi.out⟩⟩, HBe.out⟩
end Go.Proofs.YtplhbklfaokjbaaDoor
namespace Go.Proofs.YtplhbklfaokjbaaDoor
open Go.RowKit
attribute [local go_sem] After.cell After.frozen After.lt After.le After.ne After.ne' After.set_eq After.size_set After.lt_add

set_option maxRecDepth 100000 in
set_option maxHeartbeats 400000 in
theorem rshifted_bad (v : Value) (x y : Int) (w : World) (ha : RCSay w v false) :
    Calls Tryd.prog 52 #[v, .int .i64 x, .int .i64 y] w fun r w' => r = .returned (.tuple #[.slice none 0 0, .int .i64 1]) ∧ Below w.heap.size w w' := by
  have HA : Hid (∀ W, Below w.heap.size w W → _) := ha
  clear ha
  go_enter Tryd.func52, Tryd.ntmps52
  (go_wp2_with fail); refine calls_after (HA.out _ (by (repeat' (first | (with_reducible exact Below.refl _ _) | (with_reducible assumption) | (with_reducible refine Below.alloc ?_ ?_ _) | (with_reducible refine Below.drew ?_) | (with_reducible refine below_drewN ?_ _) | (with_reducible refine Below.setCell ?_ ?_ _) | (with_reducible refine below_after ?_ ?_ _) | (with_reducible refine below_set ?_) | (with_reducible refine After.size_le _ ?_) | (with_reducible refine size_alloc_le ?_) | (with_reducible refine size_set_le ?_) | (with_reducible refine size_drewN_le ?_) | go_size)))) ?_; intro x1
  go_wp2
  go_returns
  exact ⟨rfl, by (repeat' (first | (with_reducible exact Below.refl _ _) | (with_reducible assumption) | (with_reducible refine Below.alloc ?_ ?_ _) | (with_reducible refine Below.drew ?_) | (with_reducible refine below_drewN ?_ _) | (with_reducible refine Below.setCell ?_ ?_ _) | (with_reducible refine below_after ?_ ?_ _) | (with_reducible refine below_set ?_) | (with_reducible refine After.size_le _ ?_) | (with_reducible refine size_alloc_le ?_) | (with_reducible refine size_set_le ?_) | (with_reducible refine size_drewN_le ?_) | go_size))⟩
set_option maxRecDepth 100000 in
set_option maxHeartbeats 400000 in
theorem rshifted_far (v : Value) (x y : Int) (w : World) (ha : RCSay w v true) (hn : ¬ ShIn x y) :
    Calls Tryd.prog 52 #[v, .int .i64 x, .int .i64 y] w fun r w' => r = .returned (.tuple #[.slice none 0 0, .int .i64 7]) ∧ Below w.heap.size w w' := by
  have HA : Hid (∀ W, Below w.heap.size w W → _) := ha
  have H1 := Lib.hid (within_any x (-10000) 10000)
  have H2 := Lib.hid (within_any y (-10000) 10000)
  clear ha
  by_cases hx : Btw x (-10000) 10000
  · have hy : ¬ Btw y (-10000) 10000 := fun h => hn ⟨hx, h⟩
    rw [decide_eq_true hx] at H1
    rw [decide_eq_false hy] at H2
    clear hx hy hn
    go_enter Tryd.func52, Tryd.ntmps52
    (go_wp2_with fail); refine calls_after (HA.out _ (by (repeat' (first | (with_reducible exact Below.refl _ _) | (with_reducible assumption) | (with_reducible refine Below.alloc ?_ ?_ _) | (with_reducible refine Below.drew ?_) | (with_reducible refine below_drewN ?_ _) | (with_reducible refine Below.setCell ?_ ?_ _) | (with_reducible refine below_after ?_ ?_ _) | (with_reducible refine below_set ?_) | (with_reducible refine After.size_le _ ?_) | (with_reducible refine size_alloc_le ?_) | (with_reducible refine size_set_le ?_) | (with_reducible refine size_drewN_le ?_) | go_size)))) ?_; intro x1
    (go_wp2_with fail); refine calls_after2 (H1.out _) ?_; intro x2
    (go_wp2_with fail); refine calls_after2 (H2.out _) ?_; intro x3
    go_wp2
    go_returns
    exact ⟨rfl, by (repeat' (first | (with_reducible exact Below.refl _ _) | (with_reducible assumption) | (with_reducible refine Below.alloc ?_ ?_ _) | (with_reducible refine Below.drew ?_) | (with_reducible refine below_drewN ?_ _) | (with_reducible refine Below.setCell ?_ ?_ _) | (with_reducible refine below_after ?_ ?_ _) | (with_reducible refine below_set ?_) | (with_reducible refine After.size_le _ ?_) | (with_reducible refine size_alloc_le ?_) | (with_reducible refine size_set_le ?_) | (with_reducible refine size_drewN_le ?_) | go_size))⟩
  · rw [decide_eq_false hx] at H1
    clear hx hn
    go_enter Tryd.func52, Tryd.ntmps52
    (go_wp2_with fail); refine calls_after (HA.out _ (by (repeat' (first | (with_reducible exact Below.refl _ _) | (with_reducible assumption) | (with_reducible refine Below.alloc ?_ ?_ _) | (with_reducible refine Below.drew ?_) | (with_reducible refine below_drewN ?_ _) | (with_reducible refine Below.setCell ?_ ?_ _) | (with_reducible refine below_after ?_ ?_ _) | (with_reducible refine below_set ?_) | (with_reducible refine After.size_le _ ?_) | (with_reducible refine size_alloc_le ?_) | (with_reducible refine size_set_le ?_) | (with_reducible refine size_drewN_le ?_) | go_size)))) ?_; intro x1
    (go_wp2_with fail); refine calls_after2 (H1.out _) ?_; intro x2
    go_wp2
    go_returns
    exact ⟨rfl, by (repeat' (first | (with_reducible exact Below.refl _ _) | (with_reducible assumption) | (with_reducible refine Below.alloc ?_ ?_ _) | (with_reducible refine Below.drew ?_) | (with_reducible refine below_drewN ?_ _) | (with_reducible refine Below.setCell ?_ ?_ _) | (with_reducible refine below_after ?_ ?_ _) | (with_reducible refine below_set ?_) | (with_reducible refine After.size_le _ ?_) | (with_reducible refine size_alloc_le ?_) | (with_reducible refine size_set_le ?_) | (with_reducible refine size_drewN_le ?_) | go_size))⟩
set_option maxRecDepth 100000 in
set_option maxHeartbeats 2000000 in
theorem rshifted_ok (b off cap n : Nat) (f : Nat → Nat → Int) (x y : Int) (w : World) (hb : b < w.heap.size) (h1 : 1 ≤ n) (hn : n ≤ 60) (hc : CrCells w b off n f) (hG : GoodC n f) (hs : ShIn x y)
    (ha : RCSay w (.slice (some ⟨b, off, none⟩) n cap) true) :
    Calls Tryd.prog 52 #[.slice (some ⟨b, off, none⟩) n cap, .int .i64 x, .int .i64 y] w fun r w' => ShAns w' w.heap.size n f x y r ∧ Below w.heap.size w w' := by
  have hbd := hG.bd
  have HA : Hid (∀ W, Below w.heap.size w W → _) := ha
  have HC : Hid (∀ W, Below w.heap.size w W → CrCells W b off n f) := fun W hW => hc.on hb hW
  have HG := Lib.hid (shOk_good (x := x) (y := y) hG)
  have H1 := Lib.hid (within_any x (-10000) 10000)
  have H2 := Lib.hid (within_any y (-10000) 10000)
  rw [decide_eq_true hs.1] at H1
  rw [decide_eq_true hs.2] at H2
  obtain ⟨⟨sx1, sx2⟩, sy1, sy2⟩ := hs
  obtain ⟨i0, hi, hz0, hz1, hz2⟩ := info_parts crInfo
  clear ha hc hG
  go_enter Tryd.func52, Tryd.ntmps52
  (go_wp2_with fail); refine calls_after (HA.out _ (by (repeat' (first | (with_reducible exact Below.refl _ _) | (with_reducible assumption) | (with_reducible refine Below.alloc ?_ ?_ _) | (with_reducible refine Below.drew ?_) | (with_reducible refine below_drewN ?_ _) | (with_reducible refine Below.setCell ?_ ?_ _) | (with_reducible refine below_after ?_ ?_ _) | (with_reducible refine below_set ?_) | (with_reducible refine After.size_le _ ?_) | (with_reducible refine size_alloc_le ?_) | (with_reducible refine size_set_le ?_) | (with_reducible refine size_drewN_le ?_) | go_size)))) ?_; intro x1
  (go_wp2_with fail); refine calls_after2 (H1.out _) ?_; intro x2
  (go_wp2_with fail); refine calls_after2 (H2.out _) ?_; intro x3
  clear HA H1 H2
  have hsx := x3.out.size
  have hmc := HC.out (x3.w.alloc (.cells #[] 51)) (x3.out.alloc hsx _)
  have HMC := Lib.hid hmc
  clear hmc
  go_wp2_with (at_builtin; refine wpList_append_own _ rfl _ _ 22 rfl w.heap.size 51 i0 (.agg #[.int .i64 0, .int .i64 0, .int .i64 0, .int .i64 0, .int .i64 0, .int .i64 0]) 6 48 Tryd.underlying22 hi hz0 hz1 hz2 rfl (by decide) _ 0 [] rfl (World.ownsRow_lit x3.w #[] 0 hsx (by unfold maxLen; omega) rfl) ⟨b, off, none⟩ n cap (crc n f) rfl (crc_len n f) (crc_cells HMC.out) (crc_one n f) (by unfold maxLen; omega) (by omega) (by simp; omega) ?_; intro v' w1 hown' hgrow _; have hb1 : Below w.heap.size w w1 := (x3.out.alloc hsx (.cells #[] 51)).grown hgrow (by simp; omega) (fun j e => by cases e; exact hsx); simp only [Nat.zero_add, List.nil_append] at hown'; obtain ⟨g, c2, rfl, hcap, hcm, hgw, hfill⟩ := crOwn_of hown' h1; have HF := Lib.hid hfill; have HB := Lib.hid hb1; clear hown' hgrow hb1 hfill)
  go_loopw [9] (fun i wr => ∃ k : Nat, k ≤ n ∧ i = .int .i64 k ∧ FillC wr g n (shK f x y k) ∧ Below w.heap.size w wr) (fun i _ => n - (intOf i).toNat)
  case atStart => exact ⟨0, by omega, rfl, by rw [shK_zero]; exact HF.out, HB.out⟩
  case round =>
    obtain ⟨k, hk, rfl, hfill, hbel⟩ := hrel
    by_cases hlt : k < n
    · obtain ⟨-, -, -, -, c4, c5⟩ := hfill.cells k hlt
      simp only [Nat.zero_add] at c4 c5
      have hgl := hfill.lt
      have fr := hfill.free
      obtain ⟨⟨b1, b2⟩, b3, b4⟩ := hbd k hlt
      have HS := Lib.hid (hfill.shift hlt)
      have HBV := Lib.hid hbel
      have eu : ∀ j, shK f x y k k j = f k j := fun j => by simp [shK]
      rw [eu] at c4 c5
      clear eu hfill hbel HF HB
      have hkn : (k : Int) < (n : Int) := by omega
      go_wp2_with fail
      go_region
      go_wp2
      go_roundw
      case rel => exact ⟨k + 1, by omega, by go_num, HS.out.below ((Below.refl _ _).drew), ((HBV.out.setCell (p := ⟨g, _, none⟩) hgw _).setCell (p := ⟨g, _, none⟩) hgw _).drew⟩
      case measure => simp [intOf]; omega
    · obtain rfl : n = k := by omega
      have HFi := Lib.hid hfill.shifted
      have HBe := Lib.hid hbel
      have HV := Lib.hid (rvalid_any g 0 c2 n (shC f x y) wr hfill.lt (by omega) hfill.shifted.cells)
      clear hfill hbel
      by_cases hO : ShOk n f x y
      · rw [decide_eq_true (HG.out.2 hO)] at HV
        have HO := Lib.hid hO
        clear hO
        go_wp2_with fail
        refine HV.out.mono ?_
        rintro e w2 ⟨rfl, hb2⟩
        have hB2 := Lib.hid (HBe.out.trans (hb2.mono HBe.out.size))
        have hF2 := Lib.hid (HFi.out.below hb2)
        clear hb2
        go_wp2
        go_returns
        exact ⟨.inl ⟨HO.out, _, rfl, ⟨g, c2, rfl, hcap, hcm, hgw, hF2.out⟩⟩, hB2.out⟩
      · rw [decide_eq_false (fun h => hO (HG.out.1 h))] at HV
        have HO := Lib.hid hO
        clear hO
        go_wp2_with fail
        refine HV.out.mono ?_
        rintro e w2 ⟨rfl, hb2⟩
        have hB2 := Lib.hid (HBe.out.trans (hb2.mono HBe.out.size))
        clear hb2
        go_wp2
        go_returns
        exact ⟨.inr ⟨HO.out, rfl⟩, hB2.out⟩
end Go.Proofs.YtplhbklfaokjbaaDoor
