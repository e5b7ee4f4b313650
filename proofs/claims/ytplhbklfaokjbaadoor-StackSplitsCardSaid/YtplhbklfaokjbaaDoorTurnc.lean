/- A stack turned: the program. -/
import Derived.Test.YtplhbklfaokjbaaDoorTurnm
namespace Go.Proofs.YtplhbklfaokjbaaDoor
open Go.RowKit
attribute [local go_sem] After.cell After.frozen After.lt After.le After.ne After.ne' After.set_eq After.size_set After.lt_add

set_option maxRecDepth 100000 in
set_option maxHeartbeats 400000 in
theorem turned_bad (v : Value) (q : Int) (w : World) (ha : CSay w v false) :
    Calls Tryd.prog 49 #[v, .int .i64 q] w fun x w' => x = .returned (.tuple #[.slice none 0 0, .int .i64 1]) ∧ Below w.heap.size w w' := by
  have HA : Hid (∀ W, Below w.heap.size w W → _) := ha
  clear ha
  go_enter Tryd.func49, Tryd.ntmps49
  (go_wp2_with fail); refine calls_after (HA.out _ (by (repeat' (first | (with_reducible exact Below.refl _ _) | (with_reducible assumption) | (with_reducible refine Below.alloc ?_ ?_ _) | (with_reducible refine Below.drew ?_) | (with_reducible refine below_drewN ?_ _) | (with_reducible refine Below.setCell ?_ ?_ _) | (with_reducible refine below_after ?_ ?_ _) | (with_reducible refine below_set ?_) | (with_reducible refine After.size_le _ ?_) | (with_reducible refine size_alloc_le ?_) | (with_reducible refine size_set_le ?_) | (with_reducible refine size_drewN_le ?_) | go_size)))) ?_; intro x1
  go_wp2
  go_returns
  exact ⟨rfl, by (repeat' (first | (with_reducible exact Below.refl _ _) | (with_reducible assumption) | (with_reducible refine Below.alloc ?_ ?_ _) | (with_reducible refine Below.drew ?_) | (with_reducible refine below_drewN ?_ _) | (with_reducible refine Below.setCell ?_ ?_ _) | (with_reducible refine below_after ?_ ?_ _) | (with_reducible refine below_set ?_) | (with_reducible refine After.size_le _ ?_) | (with_reducible refine size_alloc_le ?_) | (with_reducible refine size_set_le ?_) | (with_reducible refine size_drewN_le ?_) | go_size))⟩

set_option maxRecDepth 100000 in
set_option maxHeartbeats 2000000 in
theorem turned_ok (b off cap n : Nat) (f : Nat → Nat → Int) (q : Int) (w : World) (hb : b < w.heap.size) (h1 : 1 ≤ n) (hn : n ≤ 60) (hc : CrCells w b off n f) (hbd : BdC n f) (_q1 : -9223372036854775808 ≤ q) (_q2 : q ≤ 9223372036854775807)
    (ha : CSay w (.slice (some ⟨b, off, none⟩) n cap) true) :
    Calls Tryd.prog 49 #[.slice (some ⟨b, off, none⟩) n cap, .int .i64 q] w fun x w' => ∃ v, x = .returned (.tuple #[v, .int .i64 0]) ∧ CrOwn w' w.heap.size v n (rotN f (q % 4).toNat) ∧ Below w.heap.size w w' := by
  have HA : Hid (∀ W, Below w.heap.size w W → _) := ha
  have HK : Hid (∀ W, Below w.heap.size w W → _) := fun W hW => cloneC_any b off cap n f W (Nat.lt_of_lt_of_le hb hW.size) h1 (by omega) (hc.on hb hW)
  clear ha hc
  have hm := tmod_lt q 4 (by omega)
  have hm1 : -3 ≤ q.tmod 4 := by omega
  have hm2 : q.tmod 4 ≤ 3 := by omega
  clear hm
  have HQ : Hid ((q.tmod 4 + 4) % 4 = ((q % 4).toNat : Int)) := Lib.hid (by rw [Int.tmod_def]; omega)
  have hQ : (q % 4).toNat ≤ 3 := by omega
  generalize (q % 4).toNat = Q at *
  go_enter Tryd.func49, Tryd.ntmps49
  (go_wp2_with fail); refine calls_after (HA.out _ (by (repeat' (first | (with_reducible exact Below.refl _ _) | (with_reducible assumption) | (with_reducible refine Below.alloc ?_ ?_ _) | (with_reducible refine Below.drew ?_) | (with_reducible refine below_drewN ?_ _) | (with_reducible refine Below.setCell ?_ ?_ _) | (with_reducible refine below_after ?_ ?_ _) | (with_reducible refine below_set ?_) | (with_reducible refine After.size_le _ ?_) | (with_reducible refine size_alloc_le ?_) | (with_reducible refine size_set_le ?_) | (with_reducible refine size_drewN_le ?_) | go_size)))) ?_; intro x1
  clear HA
  go_wp2_with fail
  refine (HK.out _ (by (repeat' (first | (with_reducible exact Below.refl _ _) | (with_reducible assumption) | (with_reducible refine Below.alloc ?_ ?_ _) | (with_reducible refine Below.drew ?_) | (with_reducible refine below_drewN ?_ _) | (with_reducible refine Below.setCell ?_ ?_ _) | (with_reducible refine below_after ?_ ?_ _) | (with_reducible refine below_set ?_) | (with_reducible refine After.size_le _ ?_) | (with_reducible refine size_alloc_le ?_) | (with_reducible refine size_set_le ?_) | (with_reducible refine size_drewN_le ?_) | go_size)))).mono ?_
  rintro e w1 ⟨v, rfl, ⟨g, c2, rfl, hcap, hcm, hg, hfill⟩, hb1⟩
  have hbel := x1.out.trans (hb1.mono x1.out.size)
  have hgw : w.heap.size ≤ g := Nat.le_trans x1.out.size hg
  clear HK hb1 hg
  have HF := Lib.hid hfill
  have HB := Lib.hid hbel
  clear hfill hbel
  go_wp2
  rw [HQ.out]
  go_loopw [18] (fun i wr => ∃ k : Nat, k ≤ Q ∧ i = .int .i64 k ∧ FillC wr g n (rotN f k) ∧ Below w.heap.size w wr) (fun i _ => Q - (intOf i).toNat)
  case atStart => exact ⟨0, by omega, rfl, HF.out, HB.out⟩
  case round =>
    obtain ⟨q, hq, rfl, hfill, hbel⟩ := hrel
    by_cases hqQ : q < Q
    · have HFi := Lib.hid hfill
      have HBe := Lib.hid hbel
      have HBd := Lib.hid (hbd.rotN q)
      clear hfill hbel
      have HNx : Hid (rotN f (q + 1) = rotC (rotN f q)) := rfl
      generalize rotN f q = F at *
      go_wp2
      go_loopw [22] (fun i wr => ∃ k : Nat, k ≤ n ∧ i = .int .i64 k ∧ FillC wr g n (updC F k) ∧ Below w.heap.size w wr) (fun i _ => n - (intOf i).toNat)
      case atStart => exact ⟨0, by omega, rfl, by rw [updC_zero]; exact HFi.out, HBe.out⟩
      case round =>
        obtain ⟨k, hk, rfl, hfill, hbel⟩ := hrel
        by_cases hlt : k < n
        · obtain ⟨c0, c1, c2', c3, c4, c5⟩ := hfill.cells k hlt
          simp only [Nat.zero_add] at c0 c1 c2' c3 c4 c5
          have hgl := hfill.lt
          have fr := hfill.free
          obtain ⟨⟨b1, b2⟩, b3, b4⟩ := HBd.out k hlt
          have HFi2 := Lib.hid hfill
          have HBe2 := Lib.hid hbel
          clear hfill hbel
          have eu : ∀ j, updC F k k j = F k j := fun j => by simp [updC]
          rw [eu] at c0 c1 c2' c3 c4 c5
          clear eu
          have hkn : (k : Int) < (n : Int) := by omega
          go_wp2_with fail
          obtain ⟨V, hV⟩ : ∃ V, wr.alloc (.cells #[.int .i64 (F k 0), .int .i64 (F k 1), .int .i64 (F k 2), .int .i64 (F k 3), .int .i64 (F k 4), .int .i64 (F k 5)] 51) = V := ⟨_, rfl⟩
          have hVb : Below wr.heap.size wr V := by rw [← hV]; exact (Below.refl _ _).alloc (Nat.le_refl _) _
          have v4 : V.cell? ⟨wr.heap.size, 4, none⟩ = some (.int .i64 (F k 4)) := by rw [← hV]; simp [go_sem]
          have v5 : V.cell? ⟨wr.heap.size, 5, none⟩ = some (.int .i64 (F k 5)) := by rw [← hV]; simp [go_sem]
          have d4 := (hVb.cell (p := ⟨g, k * 6 + 4, none⟩) hgl).trans c4
          have d5 := (hVb.cell (p := ⟨g, k * 6 + 5, none⟩) hgl).trans c5
          have fV : ∀ o, V.frozen? ⟨g, o, none⟩ = false := fun o => (hVb.frozen (p := ⟨g, o, none⟩) hgl).trans (fr o)
          have HS := Lib.hid ((HFi2.out.below hVb).step hlt)
          have HBV := Lib.hid ((HBe2.out.trans (hVb.mono HBe2.out.size)))
          have hne : wr.heap.size ≠ g := by omega
          rw [hV]
          clear hV hVb c0 c1 c2' c3 c4 c5 fr HFi2 HBe2 HFi HBe HF HB
          generalize wr.heap.size = N at *
          go_region
          go_wp2
          go_roundw
          case rel => exact ⟨k + 1, by omega, by go_num, HS.out.below ((Below.refl _ _).drew), ((HBV.out.setCell (p := ⟨g, _, none⟩) hgw _).setCell (p := ⟨g, _, none⟩) hgw _).drew⟩
          case measure => simp [intOf]; omega
        · obtain rfl : n = k := by omega
          have HFi2 := Lib.hid hfill.full
          have HBe2 := Lib.hid hbel
          clear hfill hbel
          go_wp2
          go_roundw
          case rel => exact ⟨q + 1, by omega, by go_num, by rw [HNx.out]; exact HFi2.out, HBe2.out⟩
          case measure => simp [intOf]; omega
    · obtain rfl : Q = q := by omega
      have HFi := Lib.hid hfill
      have HBe := Lib.hid hbel
      clear hfill hbel
      go_wp2
      go_returns
      exact ⟨_, rfl, ⟨g, c2, rfl, hcap, hcm, hgw, HFi.out⟩, HBe.out⟩
end Go.Proofs.YtplhbklfaokjbaaDoor
