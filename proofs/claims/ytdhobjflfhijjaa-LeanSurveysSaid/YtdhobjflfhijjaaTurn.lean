/- A survey turned: the program. -/
import Derived.Test.YtdhobjflfhijjaaSame
namespace Go.Proofs.Ytdhobjflfhijjaa
open Go.RowKit
attribute [local go_sem] After.cell After.frozen After.lt After.le After.ne After.ne' After.set_eq After.size_set After.lt_add

/-- Marks turned by a quarter. -/
def rot (f : Nat → Nat → Int) : Nat → Nat → Int := fun i j => if j = 1 then -(f i 2) else if j = 2 then f i 1 else f i j
def rotN (f : Nat → Nat → Int) : Nat → Nat → Nat → Int
  | 0 => f
  | q + 1 => rot (rotN f q)
/-- .. the first k of them. -/
def upd (f : Nat → Nat → Int) (k : Nat) : Nat → Nat → Int := fun i j => if i < k then rot f i j else f i j
def Bd (n : Nat) (f : Nat → Nat → Int) : Prop := ∀ i, i < n → (-10000 ≤ f i 1 ∧ f i 1 ≤ 10000) ∧ (-10000 ≤ f i 2 ∧ f i 2 ≤ 10000)
theorem Bd.rot {n : Nat} {f : Nat → Nat → Int} (h : Bd n f) : Bd n (rot f) := fun i hi => by
  have := h i hi
  simp only [Proofs.Ytdhobjflfhijjaa.rot]
  simp
  omega
theorem Bd.rotN {n : Nat} {f : Nat → Nat → Int} (h : Bd n f) : ∀ q, Bd n (rotN f q)
  | 0 => h
  | q + 1 => (Bd.rotN h q).rot
theorem FillM.congr {W : World} {g n : Nat} {f f' : Nat → Nat → Int} (h : FillM W g n f) (e : ∀ i, i < n → f i 0 = f' i 0 ∧ f i 1 = f' i 1 ∧ f i 2 = f' i 2) : FillM W g n f' :=
  ⟨h.lt, h.free, fun i hi => by rw [← (e i hi).1, ← (e i hi).2.1, ← (e i hi).2.2]; exact h.got i hi⟩
theorem FillM.step {W : World} {g n k : Nat} {f : Nat → Nat → Int} (h : FillM W g n (upd f k)) (hk : k < n) :
    FillM ((W.setCell ⟨g, k * 3 + 1, none⟩ (.int .i64 (-(f k 2)))).setCell ⟨g, k * 3 + 2, none⟩ (.int .i64 (f k 1))) g n (upd f (k + 1)) := by
  obtain ⟨k0, k1, k2⟩ := h.got k hk
  refine ⟨by simpa using h.lt, fun o => by simpa using h.free o, fun i hi => ?_⟩
  have a1 : (W.setCell ⟨g, k * 3 + 1, none⟩ (.int .i64 (-(f k 2)))).cell? ⟨g, k * 3 + 1, none⟩ = some (.int .i64 (-(f k 2))) := World.cell?_setCell_same _ _ _ k1
  have a2 : (W.setCell ⟨g, k * 3 + 1, none⟩ (.int .i64 (-(f k 2)))).cell? ⟨g, k * 3 + 2, none⟩ = W.cell? ⟨g, k * 3 + 2, none⟩ := World.cell?_setCell_other _ _ _ _ (by simp)
  by_cases e : i = k
  · subst e
    refine ⟨?_, ?_, ?_⟩
    · rw [World.cell?_setCell_other _ _ _ _ (by simp), World.cell?_setCell_other _ _ _ _ (by simp), k0]
      simp [upd, rot]
    · rw [World.cell?_setCell_other _ _ _ _ (by simp), a1]
      simp [upd, rot]
    · rw [World.cell?_setCell_same _ _ _ (a2.trans k2)]
      simp [upd, rot]
  · obtain ⟨g0, g1, g2⟩ := h.got i hi
    have u : ∀ j, upd f (k + 1) i j = upd f k i j := fun j => by
      unfold upd
      by_cases h1 : i < k
      · rw [if_pos h1, if_pos (by omega)]
      · rw [if_neg h1, if_neg (by omega)]
    rw [u, u, u]
    refine ⟨?_, ?_, ?_⟩
    · rw [World.cell?_setCell_other _ _ _ _ (by first | (simp; done) | (simp; omega)), World.cell?_setCell_other _ _ _ _ (by first | (simp; done) | (simp; omega))]; exact g0
    · rw [World.cell?_setCell_other _ _ _ _ (by first | (simp; done) | (simp; omega)), World.cell?_setCell_other _ _ _ _ (by first | (simp; done) | (simp; omega))]; exact g1
    · rw [World.cell?_setCell_other _ _ _ _ (by first | (simp; done) | (simp; omega)), World.cell?_setCell_other _ _ _ _ (by first | (simp; done) | (simp; omega))]; exact g2
theorem upd_zero (f : Nat → Nat → Int) : upd f 0 = f := by funext i j; simp [upd]
theorem FillM.full {W : World} {g n : Nat} {f : Nat → Nat → Int} (h : FillM W g n (upd f n)) : FillM W g n (rot f) :=
  h.congr fun i hi => by simp [upd, hi]

set_option maxRecDepth 100000 in
set_option maxHeartbeats 400000 in
theorem turned_bad (v : Value) (q : Int) (w : World) (ha : MSay w v false) :
    Calls Try.prog 23 #[v, .int .i64 q] w fun x w' => x = .returned (.tuple #[.slice none 0 0, .int .i64 1]) ∧ Below w.heap.size w w' := by
  have HA : Hid (∀ W, Below w.heap.size w W → _) := ha
  clear ha
  go_enter Try.func23, Try.ntmps23
  (go_wp2_with fail); refine calls_after (HA.out _ (by (repeat' (first | (with_reducible exact Below.refl _ _) | (with_reducible assumption) | (with_reducible refine Below.alloc ?_ ?_ _) | (with_reducible refine Below.drew ?_) | (with_reducible refine below_drewN ?_ _) | (with_reducible refine Below.setCell ?_ ?_ _) | (with_reducible refine below_after ?_ ?_ _) | (with_reducible refine below_set ?_) | (with_reducible refine After.size_le _ ?_) | (with_reducible refine size_alloc_le ?_) | (with_reducible refine size_set_le ?_) | (with_reducible refine size_drewN_le ?_) | go_size)))) ?_; intro x1
  go_wp2
  go_returns
  exact ⟨rfl, by (repeat' (first | (with_reducible exact Below.refl _ _) | (with_reducible assumption) | (with_reducible refine Below.alloc ?_ ?_ _) | (with_reducible refine Below.drew ?_) | (with_reducible refine below_drewN ?_ _) | (with_reducible refine Below.setCell ?_ ?_ _) | (with_reducible refine below_after ?_ ?_ _) | (with_reducible refine below_set ?_) | (with_reducible refine After.size_le _ ?_) | (with_reducible refine size_alloc_le ?_) | (with_reducible refine size_set_le ?_) | (with_reducible refine size_drewN_le ?_) | go_size))⟩

set_option maxRecDepth 100000 in
set_option maxHeartbeats 1000000 in
theorem turned_ok (b off cap n : Nat) (f : Nat → Nat → Int) (q : Int) (w : World) (hb : b < w.heap.size) (h1 : 1 ≤ n) (hn : n ≤ 40) (hc : MkCells w b off n f) (hbd : Bd n f) (hq : In64 q)
    (ha : MSay w (.slice (some ⟨b, off, none⟩) n cap) true) :
    Calls Try.prog 23 #[.slice (some ⟨b, off, none⟩) n cap, .int .i64 q] w fun x w' => ∃ v, x = .returned (.tuple #[v, .int .i64 0]) ∧ MkOwn w' w.heap.size v n (rotN f (q % 4).toNat) ∧ Below w.heap.size w w' := by
  have HA : Hid (∀ W, Below w.heap.size w W → _) := ha
  have HK : Hid (∀ W, Below w.heap.size w W → _) := fun W hW => clone_any b off cap n f W (Nat.lt_of_lt_of_le hb hW.size) h1 (by omega) (hc.on hb hW)
  unfold In64 at hq
  obtain ⟨q1, q2⟩ := hq
  clear ha hc
  have hm := tmod_lt q 4 (by omega)
  have hm1 : -3 ≤ q.tmod 4 := by omega
  have hm2 : q.tmod 4 ≤ 3 := by omega
  clear hm
  have HQ : Hid ((q.tmod 4 + 4) % 4 = ((q % 4).toNat : Int)) := Lib.hid (by rw [Int.tmod_def]; omega)
  have hQ : (q % 4).toNat ≤ 3 := by omega
  generalize (q % 4).toNat = Q at *
  go_enter Try.func23, Try.ntmps23
  (go_wp2_with fail); refine calls_after (HA.out _ (by (repeat' (first | (with_reducible exact Below.refl _ _) | (with_reducible assumption) | (with_reducible refine Below.alloc ?_ ?_ _) | (with_reducible refine Below.drew ?_) | (with_reducible refine below_drewN ?_ _) | (with_reducible refine Below.setCell ?_ ?_ _) | (with_reducible refine below_after ?_ ?_ _) | (with_reducible refine below_set ?_) | (with_reducible refine After.size_le _ ?_) | (with_reducible refine size_alloc_le ?_) | (with_reducible refine size_set_le ?_) | (with_reducible refine size_drewN_le ?_) | go_size)))) ?_; intro x1
  clear HA
  go_wp2_with fail
  refine (HK.out _ (by (repeat' (first | (with_reducible exact Below.refl _ _) | (with_reducible assumption) | (with_reducible refine Below.alloc ?_ ?_ _) | (with_reducible refine Below.drew ?_) | (with_reducible refine below_drewN ?_ _) | (with_reducible refine Below.setCell ?_ ?_ _) | (with_reducible refine below_after ?_ ?_ _) | (with_reducible refine below_set ?_) | (with_reducible refine After.size_le _ ?_) | (with_reducible refine size_alloc_le ?_) | (with_reducible refine size_set_le ?_) | (with_reducible refine size_drewN_le ?_) | go_size)))).mono ?_
  rintro e w1 ⟨v, rfl, ⟨g, c2, rfl, hcap, hcm, hg, hfill⟩, hb1⟩
  have hbel := x1.out.trans (hb1.mono x1.out.size)
  have hgw : w.heap.size ≤ g := Nat.le_trans x1.out.size hg
  clear HK hb1 hg
  have HF := Lib.hid hfill
  have HB := Lib.hid hbel
  clear hfill hbel
  go_wp2
  rw [HQ.out]
  go_loopw [18] (fun i wr => ∃ k : Nat, k ≤ Q ∧ i = .int .i64 k ∧ FillM wr g n (rotN f k) ∧ Below w.heap.size w wr) (fun i _ => Q - (intOf i).toNat)
  case atStart => exact ⟨0, by omega, rfl, HF.out, HB.out⟩
  case round =>
    obtain ⟨q, hq, rfl, hfill, hbel⟩ := hrel
    by_cases hqQ : q < Q
    · have HFi := Lib.hid hfill
      have HBe := Lib.hid hbel
      have HBd := Lib.hid (hbd.rotN q)
      clear hfill hbel
      have HNx : Hid (rotN f (q + 1) = rot (rotN f q)) := rfl
      generalize rotN f q = F at *
      go_wp2
      go_loopw [22] (fun i wr => ∃ k : Nat, k ≤ n ∧ i = .int .i64 k ∧ FillM wr g n (upd F k) ∧ Below w.heap.size w wr) (fun i _ => n - (intOf i).toNat)
      case atStart => exact ⟨0, by omega, rfl, by rw [upd_zero]; exact HFi.out, HBe.out⟩
      case round =>
        obtain ⟨k, hk, rfl, hfill, hbel⟩ := hrel
        by_cases hlt : k < n
        · obtain ⟨c1, c2, c3⟩ := hfill.got k hlt
          have hgl := hfill.lt
          have fr := hfill.free
          obtain ⟨⟨b1, b2⟩, b3, b4⟩ := HBd.out k hlt
          have HFi2 := Lib.hid hfill
          have HBe2 := Lib.hid hbel
          clear hfill hbel
          have e0 : upd F k k 0 = F k 0 := by simp [upd]
          have e1 : upd F k k 1 = F k 1 := by simp [upd]
          have e2 : upd F k k 2 = F k 2 := by simp [upd]
          rw [e0] at c1
          rw [e1] at c2
          rw [e2] at c3
          clear e0 e1 e2
          have hkn : (k : Int) < (n : Int) := by omega
          go_wp2_with fail
          obtain ⟨V, hV⟩ : ∃ V, wr.alloc (.cells #[.int .i64 (F k 0), .int .i64 (F k 1), .int .i64 (F k 2)] 71) = V := ⟨_, rfl⟩
          have hVb : Below wr.heap.size wr V := by rw [← hV]; exact (Below.refl _ _).alloc (Nat.le_refl _) _
          have v1 : V.cell? ⟨wr.heap.size, 1, none⟩ = some (.int .i64 (F k 1)) := by rw [← hV]; simp [go_sem]
          have v2 : V.cell? ⟨wr.heap.size, 2, none⟩ = some (.int .i64 (F k 2)) := by rw [← hV]; simp [go_sem]
          have d2 := (hVb.cell (p := ⟨g, k * 3 + 1, none⟩) hgl).trans c2
          have d3 := (hVb.cell (p := ⟨g, k * 3 + 2, none⟩) hgl).trans c3
          have fV : ∀ o, V.frozen? ⟨g, o, none⟩ = false := fun o => (hVb.frozen (p := ⟨g, o, none⟩) hgl).trans (fr o)
          have HS := Lib.hid ((HFi2.out.below hVb).step hlt)
          have HBV := Lib.hid ((HBe2.out.trans (hVb.mono HBe2.out.size)))
          have hne : wr.heap.size ≠ g := by omega
          rw [hV]
          clear hV hVb c1 c2 c3 fr HFi2 HBe2 HFi HBe HF HB
          generalize wr.heap.size = N at *
          go_region
          go_wp2
          go_roundw
          case rel => exact ⟨k + 1, by omega, by go_num, HS.out.below ((Below.refl _ _).drew), ((HBV.out.setCell (p := ⟨g, _, none⟩) hgw _).setCell (p := ⟨g, _, none⟩) hgw _).drew⟩
          case measure => simp [intOf]; omega
        · obtain rfl : n = k := by omega
          have HFi2 := Lib.hid hfill.full
          have HBe2 := Lib.hid hbel
          clear hfill hbel
          go_wp2
          go_roundw
          case rel => exact ⟨q + 1, by omega, by go_num, by rw [HNx.out]; exact HFi2.out, HBe2.out⟩
          case measure => simp [intOf]; omega
    · obtain rfl : Q = q := by omega
      have HFi := Lib.hid hfill
      have HBe := Lib.hid hbel
      clear hfill hbel
      go_wp2
      go_returns
      exact ⟨_, rfl, ⟨g, c2, rfl, hcap, hcm, hgw, HFi.out⟩, HBe.out⟩
end Go.Proofs.Ytdhobjflfhijjaa
