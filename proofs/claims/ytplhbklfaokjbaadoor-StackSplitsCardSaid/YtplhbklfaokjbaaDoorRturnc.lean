/- A stack turned: the reference. -/
import Derived.Test.YtplhbklfaokjbaaDoorTurnm
import Derived.Laws.Bits128
namespace Go.Proofs.YtplhbklfaokjbaaDoor
open Go.RowKit
attribute [local go_sem] After.cell After.frozen After.lt After.le After.ne After.ne' After.set_eq After.size_set After.lt_add

theorem i64_and3 (n : Int) : bits .and .i64 n 3 = n % 4 := by
  have h3 : (BitVec.ofInt 64 (3 : Int)).toNat = 2 ^ 2 - 1 := by decide
  show IntKind.i64.wrap ((BitVec.ofInt 64 n &&& BitVec.ofInt 64 (3 : Int)).toNat : Int) = _
  rw [BitVec.toNat_and, h3, Nat.and_two_pow_sub_one_eq_mod, BitVec.toNat_ofInt]
  rw [IntKind.wrap_i64]
  omega

set_option maxRecDepth 100000 in
set_option maxHeartbeats 400000 in
theorem rturned_bad (v : Value) (q : Int) (w : World) (ha : RCSay w v false) :
    Calls Tryd.prog 50 #[v, .int .i64 q] w fun x w' => x = .returned (.tuple #[.slice none 0 0, .int .i64 1]) ∧ Below w.heap.size w w' := by
  have HA : Hid (∀ W, Below w.heap.size w W → _) := ha
  clear ha
  go_enter Tryd.func50, Tryd.ntmps50
  (go_wp2_with fail); refine calls_after (HA.out _ (by (repeat' (first | (with_reducible exact Below.refl _ _) | (with_reducible assumption) | (with_reducible refine Below.alloc ?_ ?_ _) | (with_reducible refine Below.drew ?_) | (with_reducible refine below_drewN ?_ _) | (with_reducible refine Below.setCell ?_ ?_ _) | (with_reducible refine below_after ?_ ?_ _) | (with_reducible refine below_set ?_) | (with_reducible refine After.size_le _ ?_) | (with_reducible refine size_alloc_le ?_) | (with_reducible refine size_set_le ?_) | (with_reducible refine size_drewN_le ?_) | go_size)))) ?_; intro x1
  go_wp2
  go_returns
  exact ⟨rfl, by (repeat' (first | (with_reducible exact Below.refl _ _) | (with_reducible assumption) | (with_reducible refine Below.alloc ?_ ?_ _) | (with_reducible refine Below.drew ?_) | (with_reducible refine below_drewN ?_ _) | (with_reducible refine Below.setCell ?_ ?_ _) | (with_reducible refine below_after ?_ ?_ _) | (with_reducible refine below_set ?_) | (with_reducible refine After.size_le _ ?_) | (with_reducible refine size_alloc_le ?_) | (with_reducible refine size_set_le ?_) | (with_reducible refine size_drewN_le ?_) | go_size))⟩

set_option maxRecDepth 100000 in
set_option maxHeartbeats 2000000 in
theorem rturned_ok (b off cap n : Nat) (f : Nat → Nat → Int) (q : Int) (w : World) (hb : b < w.heap.size) (h1 : 1 ≤ n) (hn : n ≤ 60) (hc : CrCells w b off n f) (hbd : BdC n f)
    (ha : RCSay w (.slice (some ⟨b, off, none⟩) n cap) true) :
    Calls Tryd.prog 50 #[.slice (some ⟨b, off, none⟩) n cap, .int .i64 q] w fun x w' => ∃ v, x = .returned (.tuple #[v, .int .i64 0]) ∧ CrOwn w' w.heap.size v n (rotN f (q % 4).toNat) ∧ Below w.heap.size w w' := by
  have HA : Hid (∀ W, Below w.heap.size w W → _) := ha
  have HC : Hid (∀ W, Below w.heap.size w W → CrCells W b off n f) := fun W hW => hc.on hb hW
  clear ha hc
  have HQ : Hid (bits .and .i64 q 3 = ((q % 4).toNat : Int)) := Lib.hid (by rw [i64_and3]; omega)
  have hQ : (q % 4).toNat ≤ 3 := by omega
  generalize (q % 4).toNat = Q at *
  obtain ⟨i0, hi, hz0, hz1, hz2⟩ := info_parts crInfo
  go_enter Tryd.func50, Tryd.ntmps50
  (go_wp2_with fail); refine calls_after (HA.out _ (by (repeat' (first | (with_reducible exact Below.refl _ _) | (with_reducible assumption) | (with_reducible refine Below.alloc ?_ ?_ _) | (with_reducible refine Below.drew ?_) | (with_reducible refine below_drewN ?_ _) | (with_reducible refine Below.setCell ?_ ?_ _) | (with_reducible refine below_after ?_ ?_ _) | (with_reducible refine below_set ?_) | (with_reducible refine After.size_le _ ?_) | (with_reducible refine size_alloc_le ?_) | (with_reducible refine size_set_le ?_) | (with_reducible refine size_drewN_le ?_) | go_size)))) ?_; intro x1
  clear HA
  have hsx := x1.out.size
  have hmc := HC.out (x1.w.alloc (.cells #[] 51)) (x1.out.alloc hsx _)
  have HMC := Lib.hid hmc
  clear hmc
  go_wp2_with (at_builtin; refine wpList_append_own _ rfl _ _ 22 rfl w.heap.size 51 i0 (.agg #[.int .i64 0, .int .i64 0, .int .i64 0, .int .i64 0, .int .i64 0, .int .i64 0]) 6 48 Tryd.underlying22 hi hz0 hz1 hz2 rfl (by decide) _ 0 [] rfl (World.ownsRow_lit x1.w #[] 0 hsx (by unfold maxLen; omega) rfl) ⟨b, off, none⟩ n cap (crc n f) rfl (crc_len n f) (crc_cells HMC.out) (crc_one n f) (by unfold maxLen; omega) (by omega) (by simp; omega) ?_; intro v' w1 hown' hgrow _; have hb1 : Below w.heap.size w w1 := (x1.out.alloc hsx (.cells #[] 51)).grown hgrow (by simp; omega) (fun j e => by cases e; exact hsx); simp only [Nat.zero_add, List.nil_append] at hown'; obtain ⟨g, c2, rfl, hcap, hcm, hgw, hfill⟩ := crOwn_of hown' h1; have HF := Lib.hid hfill; have HB := Lib.hid hb1; clear hown' hgrow hb1 hfill)
  rw [HQ.out]
  go_loopw [7] (fun i wr => ∃ k : Nat, k ≤ Q ∧ i = .int .i64 ((Q : Int) - k) ∧ FillC wr g n (rotN f k) ∧ Below w.heap.size w wr) (fun i _ => (intOf i).toNat)
  case atStart => exact ⟨0, by omega, by go_num, HF.out, HB.out⟩
  case round =>
    obtain ⟨q, hq, rfl, hfill, hbel⟩ := hrel
    by_cases hqQ : q < Q
    · have HFi := Lib.hid hfill
      have HBe := Lib.hid hbel
      have HBd := Lib.hid (hbd.rotN q)
      clear hfill hbel
      have HNx : Hid (rotN f (q + 1) = rotC (rotN f q)) := rfl
      generalize rotN f q = F at *
      have hq0 : (0 : Int) < (Q : Int) - (q : Int) := by omega
      have hq3 : (Q : Int) - (q : Int) ≤ 3 := by omega
      go_wp2
      go_loopw [8] (fun i wr => ∃ k : Nat, k ≤ n ∧ i = .int .i64 k ∧ FillC wr g n (updC F k) ∧ Below w.heap.size w wr) (fun i _ => n - (intOf i).toNat)
      case atStart => exact ⟨0, by omega, rfl, by rw [updC_zero]; exact HFi.out, HBe.out⟩
      case round =>
        obtain ⟨k, hk, rfl, hfill, hbel⟩ := hrel
        by_cases hlt : k < n
        · obtain ⟨c0, c1, c2', c3, c4, c5⟩ := hfill.cells k hlt
          simp only [Nat.zero_add] at c4 c5
          have hgl := hfill.lt
          have fr := hfill.free
          obtain ⟨⟨b1, b2⟩, b3, b4⟩ := HBd.out k hlt
          have HS := Lib.hid (hfill.step hlt)
          have HBV := Lib.hid hbel
          have eu : ∀ j, updC F k k j = F k j := fun j => by simp [updC]
          rw [eu] at c4 c5
          clear eu c0 c1 c2' c3 hfill hbel HFi HBe HF HB
          have hkn : (k : Int) < (n : Int) := by omega
          go_wp2_with fail
          go_region
          go_wp2
          go_roundw
          case rel => exact ⟨k + 1, by omega, by go_num, HS.out.below ((Below.refl _ _).drew), ((HBV.out.setCell (p := ⟨g, _, none⟩) hgw _).setCell (p := ⟨g, _, none⟩) hgw _).drew⟩
          case measure => simp [intOf]; omega
        · obtain rfl : n = k := by omega
          have HFi2 := Lib.hid hfill.full
          have HBe2 := Lib.hid hbel
          clear hfill hbel
          go_wp2
          go_roundw
          case rel => exact ⟨q + 1, by omega, by go_num, by rw [HNx.out]; exact HFi2.out, HBe2.out⟩
          case measure => simp [intOf]; omega
    · obtain rfl : Q = q := by omega
      have HFi := Lib.hid hfill
      have HBe := Lib.hid hbel
      clear hfill hbel
      rw [Int.sub_self]
      go_wp2
      go_returns
      exact ⟨_, rfl, ⟨g, c2, rfl, hcap, hcm, hgw, HFi.out⟩, HBe.out⟩
end Go.Proofs.YtplhbklfaokjbaaDoor
