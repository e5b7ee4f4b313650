/- Strictest in both programs. -/
import Derived.Test.YtlnlgboeohfpdaaDoorWdq
namespace Go.Proofs.YtlnlgboeohfpdaaDoor
open Go.RowKit

/-- Where a slice's rules lie. -/
def RsAt (W : World) (a : Option Addr) (m : Nat) (rs rg rc : Nat → Int) : Prop := ∀ k, k < m → ∃ b off, a = some ⟨b, off, none⟩ ∧ b < W.heap.size ∧
  W.cell? ⟨b, off + k * 3, none⟩ = some (.int .i64 (rs k)) ∧ W.cell? ⟨b, off + k * 3 + 1, none⟩ = some (.int .i64 (rg k)) ∧ W.cell? ⟨b, off + k * 3 + 2, none⟩ = some (.int .i64 (rc k))
theorem RsAt.on {w W : World} {a : Option Addr} {m : Nat} {rs rg rc : Nat → Int} (h : RsAt w a m rs rg rc) (hb : Below w.heap.size w W) : RsAt W a m rs rg rc := fun k hk => by
  obtain ⟨b, off, e, h1, h2, h3, h4⟩ := h k hk
  exact ⟨b, off, e, Nat.lt_of_lt_of_le h1 hb.size, (hb.cell (p := ⟨b, off + k * 3, none⟩) h1).trans h2, (hb.cell (p := ⟨b, off + k * 3 + 1, none⟩) h1).trans h3, (hb.cell (p := ⟨b, off + k * 3 + 2, none⟩) h1).trans h4⟩
def RsGood (m : Nat) (rs rg rc : Nat → Int) : Prop := ∀ k, k < m → GoodRu (rs k) (rg k) (rc k)
instance (m : Nat) (rs rg rc : Nat → Int) : Decidable (RsGood m rs rg rc) := by unfold RsGood; infer_instance
/-- In how many minutes work goes by a rule; the first rule with the fewest. -/
def ctS (n : Nat) (f : Nat → Int) (rs rg rc : Nat → Int) (k : Nat) : Nat := cN (fl (gW (rs k) (rg k) (rc k) f) n) 0 n
def sI (ct : Nat → Nat) : Nat → Nat
  | 0 => 0
  | k + 1 => if ct k < ct (sI ct k) then k else sI ct k
theorem sI_le (ct : Nat → Nat) : ∀ k, sI ct k ≤ k
  | 0 => Nat.le_refl _
  | k + 1 => by
    have := sI_le ct k
    simp only [sI]
    split <;> omega
/-- The fewest minutes, as the program counts. -/
def sF (n : Nat) (ct : Nat → Nat) (k : Nat) : Nat := if k = 0 then n else ct (sI ct k)
theorem sF_step (n : Nat) (ct : Nat → Nat) (hn : ∀ k, ct k ≤ n) (k : Nat) : (ct k < sF n ct k → sI ct (k + 1) = k ∧ sF n ct (k + 1) = ct k) ∧ (¬ ct k < sF n ct k → sI ct (k + 1) = sI ct k ∧ sF n ct (k + 1) = sF n ct k) := by
  unfold sF
  rcases Nat.eq_zero_or_pos k with rfl | hk
  · have h0 : sI ct (0 + 1) = 0 := by simp [sI]
    rw [h0]
    have := hn 0
    simp only [sI]
    constructor
    · intro h; simp
    · intro h; simp at h ⊢; omega
  · rw [if_neg (by omega : ¬ k = 0), if_neg (by omega : ¬ k + 1 = 0)]
    simp only [sI]
    constructor <;> intro h <;> simp [h]
theorem ctS_le (n : Nat) (f : Nat → Int) (rs rg rc : Nat → Int) (k : Nat) : ctS n f rs rg rc k ≤ n := Nat.le_trans (cN_le _ _ _) (fl_len _ _)
def sE (n : Nat) (f : Nat → Int) (m : Nat) (rs rg rc : Nat → Int) : Int := if decide (GoodG n f) && decide (RsGood m rs rg rc) then (if Btw (m : Int) 1 20 then 0 else 7) else 1
def sN (n : Nat) (f : Nat → Int) (m : Nat) (rs rg rc : Nat → Int) : Nat := if sE n f m rs rg rc = 0 then sI (ctS n f rs rg rc) m else 0
theorem sE_cases {n : Nat} {f : Nat → Int} (h : GoodG n f) (m : Nat) (rs rg rc : Nat → Int) :
    (¬ RsGood m rs rg rc → sE n f m rs rg rc = 1 ∧ sN n f m rs rg rc = 0) ∧ (RsGood m rs rg rc → ¬ Btw (m : Int) 1 20 → sE n f m rs rg rc = 7 ∧ sN n f m rs rg rc = 0) ∧
    (RsGood m rs rg rc → Btw (m : Int) 1 20 → sE n f m rs rg rc = 0 ∧ sN n f m rs rg rc = sI (ctS n f rs rg rc) m) := by
  refine ⟨fun h1 => ?_, fun h1 h2 => ?_, fun h1 h2 => ?_⟩
  · have e : sE n f m rs rg rc = 1 := by unfold sE; rw [decide_eq_false h1]; simp
    exact ⟨e, by unfold sN; rw [e]; rfl⟩
  · have e : sE n f m rs rg rc = 7 := by unfold sE; rw [decide_eq_true h1, decide_eq_true h]; simp [h2]
    exact ⟨e, by unfold sN; rw [e]; rfl⟩
  · have e : sE n f m rs rg rc = 0 := by unfold sE; rw [decide_eq_true h1, decide_eq_true h]; simp [h2]
    exact ⟨e, by unfold sN; rw [e]; rfl⟩
section
attribute [local go_sem] After.cell After.frozen After.lt After.le After.ne After.ne' After.set_eq After.size_set After.lt_add
set_option maxRecDepth 100000 in
set_option maxHeartbeats 2000000 in
theorem strictest_say (a : Option Addr) (n cap : Nat) (f : Nat → Int) (a' : Option Addr) (m cap' : Nat) (rs rg rc : Nat → Int) (w : World) (hA : IAt w a n f) (hR : RsAt w a' m rs rg rc) (hm : m ≤ 9223372036854775807) :
    Calls Tryd.prog 29 #[.slice a n cap, .slice a' m cap'] w fun e w' => e = .returned (.tuple #[.int .i64 (sN n f m rs rg rc : Nat), .int .i64 (sE n f m rs rg rc)]) ∧ Below w.heap.size w w' := by
  have HV := Lib.hid (validGusts_any a n cap f w hA)
  have HA := Lib.hid hA
  have HR := Lib.hid hR
  cases hk : decide (GoodG n f)
  · have e1 : sE n f m rs rg rc = 1 := by unfold sE; rw [hk]; rfl
    have e2 : sN n f m rs rg rc = 0 := by unfold sN; rw [e1]; rfl
    rw [hk] at HV
    rw [e1, e2]
    go_enter Tryd.func29, Tryd.ntmps29
    go_wp2_with fail
    refine calls_after HV.out ?_
    intro x1
    go_wp2
    go_returns
    exact ⟨rfl, by (repeat' (first | (with_reducible exact Below.refl _ _) | (with_reducible assumption) | (with_reducible refine Below.alloc ?_ ?_ _) | (with_reducible refine Below.drew ?_) | (with_reducible refine below_drewN ?_ _) | (with_reducible refine Below.setCell ?_ ?_ _) | (with_reducible refine below_after ?_ ?_ _) | (with_reducible refine below_set ?_) | (with_reducible refine After.size_le _ ?_) | (with_reducible refine size_alloc_le ?_) | (with_reducible refine size_set_le ?_) | (with_reducible refine size_drewN_le ?_) | go_size))⟩
  · have hG := of_decide_eq_true hk
    have hn := hG.1
    have hnI : (n : Int) ≤ 2000 := by omega
    have hmI : (m : Int) ≤ 9223372036854775807 := by omega
    rw [hk] at HV
    have HE := Lib.hid (sE_cases hG m rs rg rc)
    have HC : Hid (∀ k, GoodRu (rs k) (rg k) (rc k) → ∀ W, Below w.heap.size w W → Calls Tryd.prog 60 #[.agg #[.int .i64 (rs k), .int .i64 (rg k), .int .i64 (rc k), .slice a n cap], .int .i64 0, .int .i64 n] W fun e w' => e = .returned (.int .i64 (ctS n f rs rg rc k : Nat)) ∧ Below W.heap.size W w') := Lib.hid (fun k hr W hW => by
      have := count_any (rs k) (rg k) (rc k) a n cap f 0 n W (by unfold GoodRu Btw at hr; omega) hn (hA.on hW) (by omega)
      rw [fl_eq (fun k _ => pW_true _ _ _ f k)] at this
      exact this)
    have HL := Lib.hid (ctS_le n f rs rg rc)
    generalize sE n f m rs rg rc = E0 at *
    generalize sN n f m rs rg rc = N0 at *
    generalize ctS n f rs rg rc = ct at *
    clear hG hk
    have HB := Lib.hid (fun (z : Bool) (hz : decide (Btw (m : Int) 1 20) = z) W => between_b (m : Int) 1 20 W hz)
    have HVR := Lib.hid (fun k (z : Bool) (hz : decide (GoodRu (rs k) (rg k) (rc k)) = z) W => hz ▸ validRule_any (rs k) (rg k) (rc k) W)
    go_enter Tryd.func29, Tryd.ntmps29
    go_wp2_with fail
    refine calls_after HV.out ?_
    intro x1
    go_wp2
    go_loopw [7, 18] (fun _ i wr => ∃ k : Nat, k ≤ m ∧ i = .int .i64 k ∧ RsGood k rs rg rc ∧ ∃ x : After w, wr = x.w) (fun _ i _ => m - (intOf i).toNat)
    case atStart => exact ⟨0, by omega, rfl, fun k hk => by omega, _, rfl⟩
    case round =>
      obtain ⟨k, hkk, rfl, hgood, x, rfl⟩ := hrel
      by_cases hlt : k < m
      · have hlti : (k : Int) < (m : Int) := by omega
        obtain ⟨b, off, rfl, hb, c0, c1, c2⟩ := HR.out k hlt
        cases hz : decide (GoodRu (rs k) (rg k) (rc k))
        · have HVk := Lib.hid (HVR.out k false hz)
          have hE1 := HE.out.1 (fun h => absurd (h k hlt) (of_decide_eq_false hz))
          clear hz
          generalize rs k = s at *
          generalize rg k = g at *
          generalize rc k = c at *
          go_wp2_with (go_at_call 16; refine (HVk.out _).mono ?_; rintro e w3 ⟨rfl, hb3⟩; obtain ⟨y, rfl⟩ : ∃ y : After w, w3 = y.w := ⟨⟨w3, Below.trans (x.out.alloc x.out.size _) (hb3.mono (by have := x.out.size; simp; omega))⟩, rfl⟩; clear hb3)
          go_returns
          exact ⟨by rw [hE1.1, hE1.2]; rfl, by (repeat' (first | (with_reducible exact Below.refl _ _) | (with_reducible assumption) | (with_reducible refine Below.alloc ?_ ?_ _) | (with_reducible refine Below.drew ?_) | (with_reducible refine below_drewN ?_ _) | (with_reducible refine Below.setCell ?_ ?_ _) | (with_reducible refine below_after ?_ ?_ _) | (with_reducible refine below_set ?_) | (with_reducible refine After.size_le _ ?_) | (with_reducible refine size_alloc_le ?_) | (with_reducible refine size_set_le ?_) | (with_reducible refine size_drewN_le ?_) | go_size))⟩
        · have HVk := Lib.hid (HVR.out k true hz)
          have hgood' : Hid (RsGood (k + 1) rs rg rc) := Lib.hid (fun j hj => by
            rcases Nat.lt_or_ge j k with h | h
            · exact hgood j h
            · obtain rfl : j = k := by omega
              exact of_decide_eq_true hz)
          clear hz
          generalize rs k = s at *
          generalize rg k = g at *
          generalize rc k = c at *
          go_wp2_with (go_at_call 16; refine (HVk.out _).mono ?_; rintro e w3 ⟨rfl, hb3⟩; obtain ⟨y, rfl⟩ : ∃ y : After w, w3 = y.w := ⟨⟨w3, Below.trans (x.out.alloc x.out.size _) (hb3.mono (by have := x.out.size; simp; omega))⟩, rfl⟩; clear hb3)
          go_roundw
          case rel => exact ⟨k + 1, by omega, by go_num, hgood'.out, _, rfl⟩
          case measure => simp [intOf]; omega
      · obtain rfl : k = m := by omega
        clear HVR
        by_cases hb : Btw (k : Int) 1 20
        · have HBt := Lib.hid (HB.out true (decide_eq_true hb))
          have hE1 := Lib.hid (HE.out.2.2 hgood hb)
          have hkI : (k : Int) ≤ 20 := hb.2
          clear HB HE hb
          have HG := Lib.hid hgood
          clear hgood
          go_wp2_with (go_at_call 58; refine (HBt.out _).mono ?_; rintro e w1 ⟨rfl, rfl⟩)
          go_loopw [8, 9, 10, 11, 12, 34] (fun st fe _ _ _ i wr => ∃ j : Nat, j ≤ k ∧ i = .int .i64 j ∧ st = .int .i64 (sI ct j : Nat) ∧ fe = .int .i64 (sF n ct j : Nat) ∧ ∃ x : After w, wr = x.w) (fun _ _ _ _ _ i _ => k - (intOf i).toNat)
          case atStart => exact ⟨0, by omega, rfl, rfl, by unfold sF; rw [if_pos rfl], _, rfl⟩
          case round =>
            obtain ⟨j, hj, rfl, rfl, rfl, x2, rfl⟩ := hrel
            by_cases hlt : j < k
            · have hlti : (j : Int) < (k : Int) := by omega
              obtain ⟨b, off, rfl, hb, c0, c1, c2⟩ := HR.out j hlt
              have HCj := Lib.hid (HC.out j (HG.out j hlt))
              obtain ⟨S1, S2⟩ := sF_step n ct HL.out j
              have S1 := Lib.hid S1
              have S2 := Lib.hid S2
              generalize rs j = s at *
              generalize rg j = g at *
              generalize rc j = c at *
              generalize ct j = N at *
              generalize sF n ct j = F at *
              by_cases hNF : N < F
              · have hNFi : (N : Int) < (F : Int) := by omega
                have HS := Lib.hid (S1.out hNF)
                go_wp2_with (go_at_call 60; refine (HCj.out _ (x2.out.alloc x2.out.size _)).mono ?_; rintro e w3 ⟨rfl, hb3⟩; obtain ⟨y, rfl⟩ : ∃ y : After w, w3 = y.w := ⟨⟨w3, Below.trans (x2.out.alloc x2.out.size _) (hb3.mono (by have := x2.out.size; simp; omega))⟩, rfl⟩; clear hb3)
                go_roundw
                case rel => exact ⟨j + 1, by omega, by go_num, by rw [HS.out.1], by rw [HS.out.2], _, rfl⟩
                case measure => simp [intOf]; omega
              · have hNFi : ¬ (N : Int) < (F : Int) := by omega
                have HS := Lib.hid (S2.out hNF)
                go_wp2_with (go_at_call 60; refine (HCj.out _ (x2.out.alloc x2.out.size _)).mono ?_; rintro e w3 ⟨rfl, hb3⟩; obtain ⟨y, rfl⟩ : ∃ y : After w, w3 = y.w := ⟨⟨w3, Below.trans (x2.out.alloc x2.out.size _) (hb3.mono (by have := x2.out.size; simp; omega))⟩, rfl⟩; clear hb3)
                go_roundw
                case rel => exact ⟨j + 1, by omega, by go_num, by rw [HS.out.1], by rw [HS.out.2], _, rfl⟩
                case measure => simp [intOf]; omega
            · obtain rfl : j = k := by omega
              go_wp2
              go_returns
              exact ⟨by rw [hE1.out.1, hE1.out.2]; rfl, by (repeat' (first | (with_reducible exact Below.refl _ _) | (with_reducible assumption) | (with_reducible refine Below.alloc ?_ ?_ _) | (with_reducible refine Below.drew ?_) | (with_reducible refine below_drewN ?_ _) | (with_reducible refine Below.setCell ?_ ?_ _) | (with_reducible refine below_after ?_ ?_ _) | (with_reducible refine below_set ?_) | (with_reducible refine After.size_le _ ?_) | (with_reducible refine size_alloc_le ?_) | (with_reducible refine size_set_le ?_) | (with_reducible refine size_drewN_le ?_) | go_size))⟩
        · have HBf := Lib.hid (HB.out false (decide_eq_false hb))
          have hE1 := Lib.hid (HE.out.2.1 hgood hb)
          clear HB HE hb
          go_wp2_with (go_at_call 58; refine (HBf.out _).mono ?_; rintro e w1 ⟨rfl, rfl⟩)
          go_returns
          exact ⟨by rw [hE1.out.1, hE1.out.2]; rfl, by (repeat' (first | (with_reducible exact Below.refl _ _) | (with_reducible assumption) | (with_reducible refine Below.alloc ?_ ?_ _) | (with_reducible refine Below.drew ?_) | (with_reducible refine below_drewN ?_ _) | (with_reducible refine Below.setCell ?_ ?_ _) | (with_reducible refine below_after ?_ ?_ _) | (with_reducible refine below_set ?_) | (with_reducible refine After.size_le _ ?_) | (with_reducible refine size_alloc_le ?_) | (with_reducible refine size_set_le ?_) | (with_reducible refine size_drewN_le ?_) | go_size))⟩
set_option maxRecDepth 100000 in
set_option maxHeartbeats 2000000 in
theorem rstrictest_say (a : Option Addr) (n cap : Nat) (f : Nat → Int) (a' : Option Addr) (m cap' : Nat) (rs rg rc : Nat → Int) (w : World) (hA : IAt w a n f) (hR : RsAt w a' m rs rg rc) (hcap : n ≤ 9223372036854775807) (hm : m ≤ 9223372036854775807) :
    Calls Tryd.prog 30 #[.slice a n cap, .slice a' m cap'] w fun e w' => e = .returned (.tuple #[.int .i64 (sN n f m rs rg rc : Nat), .int .i64 (sE n f m rs rg rc)]) ∧ Below w.heap.size w w' := by
  have HV := Lib.hid (rvalidGusts_any a n cap f w hA hcap)
  have HA := Lib.hid hA
  have HR := Lib.hid hR
  cases hk : decide (GoodG n f)
  · have e1 : sE n f m rs rg rc = 1 := by unfold sE; rw [hk]; rfl
    have e2 : sN n f m rs rg rc = 0 := by unfold sN; rw [e1]; rfl
    rw [hk] at HV
    rw [e1, e2]
    go_enter Tryd.func30, Tryd.ntmps30
    go_wp2_with fail
    refine calls_after HV.out ?_
    intro x1
    go_wp2
    go_returns
    exact ⟨rfl, by (repeat' (first | (with_reducible exact Below.refl _ _) | (with_reducible assumption) | (with_reducible refine Below.alloc ?_ ?_ _) | (with_reducible refine Below.drew ?_) | (with_reducible refine below_drewN ?_ _) | (with_reducible refine Below.setCell ?_ ?_ _) | (with_reducible refine below_after ?_ ?_ _) | (with_reducible refine below_set ?_) | (with_reducible refine After.size_le _ ?_) | (with_reducible refine size_alloc_le ?_) | (with_reducible refine size_set_le ?_) | (with_reducible refine size_drewN_le ?_) | go_size))⟩
  · have hG := of_decide_eq_true hk
    have hn := hG.1
    have hnI : (n : Int) ≤ 2000 := by omega
    have hmI : (m : Int) ≤ 9223372036854775807 := by omega
    rw [hk] at HV
    have HE := Lib.hid (sE_cases hG m rs rg rc)
    have HC : Hid (∀ k, GoodRu (rs k) (rg k) (rc k) → ∀ W, Below w.heap.size w W → Calls Tryd.prog 62 #[.agg #[.int .i64 (rs k), .int .i64 (rg k), .int .i64 (rc k)], .slice a n cap, .int .i64 0, .int .i64 n] W fun e w' => e = .returned (.int .i64 (ctS n f rs rg rc k : Nat)) ∧ Below W.heap.size W w') := Lib.hid (fun k hr W hW =>
      rminutes_any (rs k) (rg k) (rc k) a n cap f 0 n W (hA.on hW) (by unfold GoodRu Btw at hr; omega) hn (fun k hk => (hG.2 k hk).1) ⟨by omega, by omega, by omega⟩)
    generalize sE n f m rs rg rc = E0 at *
    generalize sN n f m rs rg rc = N0 at *
    generalize ctS n f rs rg rc = ct at *
    clear hG hk
    have HB := Lib.hid (fun (z : Bool) (hz : decide (Btw (m : Int) 1 20) = z) W => rwithin_b (m : Int) 1 20 W hz)
    have HVR := Lib.hid (fun k (z : Bool) (hz : decide (GoodRu (rs k) (rg k) (rc k)) = z) W => hz ▸ rvalidRule_any (rs k) (rg k) (rc k) W)
    go_enter Tryd.func30, Tryd.ntmps30
    go_wp2_with fail
    refine calls_after HV.out ?_
    intro x1
    go_wp2
    go_loopw [6] (fun i wr => ∃ k : Nat, k ≤ m ∧ i = .int .i64 k ∧ RsGood k rs rg rc ∧ ∃ x : After w, wr = x.w) (fun i _ => m - (intOf i).toNat)
    case atStart => exact ⟨0, by omega, rfl, fun k hk => by omega, _, rfl⟩
    case round =>
      obtain ⟨k, hkk, rfl, hgood, x, rfl⟩ := hrel
      by_cases hlt : k < m
      · have hlti : (k : Int) < (m : Int) := by omega
        obtain ⟨b, off, rfl, hb, c0, c1, c2⟩ := HR.out k hlt
        cases hz : decide (GoodRu (rs k) (rg k) (rc k))
        · have HVk := Lib.hid (HVR.out k false hz)
          have hE1 := HE.out.1 (fun h => absurd (h k hlt) (of_decide_eq_false hz))
          clear hz
          generalize rs k = s at *
          generalize rg k = g at *
          generalize rc k = c at *
          go_wp2_with (go_at_call 17; refine calls_after2 (HVk.out _) ?_; intro y)
          go_returns
          exact ⟨by rw [hE1.1, hE1.2]; rfl, by (repeat' (first | (with_reducible exact Below.refl _ _) | (with_reducible assumption) | (with_reducible refine Below.alloc ?_ ?_ _) | (with_reducible refine Below.drew ?_) | (with_reducible refine below_drewN ?_ _) | (with_reducible refine Below.setCell ?_ ?_ _) | (with_reducible refine below_after ?_ ?_ _) | (with_reducible refine below_set ?_) | (with_reducible refine After.size_le _ ?_) | (with_reducible refine size_alloc_le ?_) | (with_reducible refine size_set_le ?_) | (with_reducible refine size_drewN_le ?_) | go_size))⟩
        · have HVk := Lib.hid (HVR.out k true hz)
          have hgood' : Hid (RsGood (k + 1) rs rg rc) := Lib.hid (fun j hj => by
            rcases Nat.lt_or_ge j k with h | h
            · exact hgood j h
            · obtain rfl : j = k := by omega
              exact of_decide_eq_true hz)
          clear hz
          generalize rs k = s at *
          generalize rg k = g at *
          generalize rc k = c at *
          go_wp2_with (go_at_call 17; refine calls_after2 (HVk.out _) ?_; intro y)
          go_roundw
          case rel => exact ⟨k + 1, by omega, by go_num, hgood'.out, _, rfl⟩
          case measure => simp [intOf]; omega
      · obtain rfl : k = m := by omega
        clear HVR
        by_cases hb : Btw (k : Int) 1 20
        · have HBt := Lib.hid (HB.out true (decide_eq_true hb))
          have hE1 := Lib.hid (HE.out.2.2 hgood hb)
          have hkI : (k : Int) ≤ 20 := hb.2
          have hk1 : 1 ≤ k := by have := hb.1; omega
          clear HB HE hb
          have HG := Lib.hid hgood
          clear hgood
          go_wp2_with (go_at_call 59; refine (HBt.out _).mono ?_; rintro e w1 ⟨rfl, rfl⟩)
          go_loopw [7, 8] (fun st i wr => ∃ j : Nat, j ≤ k ∧ i = .int .i64 j ∧ st = .int .i64 (sI ct j : Nat) ∧ ∃ x : After w, wr = x.w) (fun _ i _ => k - (intOf i).toNat)
          case atStart => exact ⟨0, by omega, rfl, rfl, _, rfl⟩
          case round =>
            obtain ⟨j, hj, rfl, rfl, x2, rfl⟩ := hrel
            by_cases hlt : j < k
            · have hlti : (j : Int) < (k : Int) := by omega
              have hij : sI ct j < k := Nat.lt_of_le_of_lt (sI_le ct j) hlt
              have hiji : ((sI ct j : Nat) : Int) < (k : Int) := by omega
              obtain ⟨b, off, rfl, hb, c0, c1, c2⟩ := HR.out j hlt
              obtain ⟨b', off', e', hb', d0, d1, d2⟩ := HR.out (sI ct j) hij
              cases e'
              have HCj := Lib.hid (HC.out j (HG.out j hlt))
              have HCi := Lib.hid (HC.out (sI ct j) (HG.out _ hij))
              have HS := Lib.hid (show sI ct (j + 1) = if ct j < ct (sI ct j) then j else sI ct j from rfl)
              generalize sI ct j = i at *
              generalize rs i = s' at *
              generalize rg i = g' at *
              generalize rc i = c' at *
              generalize ct i = M at *
              generalize hs : rs j = s at *
              generalize hg : rg j = g at *
              generalize hc : rc j = c at *
              generalize hN : ct j = N at *
              clear hs hg hc hN
              by_cases hNF : N < M
              · have hNFi : (N : Int) < (M : Int) := by omega
                go_wp2
                refine wp_region_after (by kernel_rfl) (by kernel_rfl) ?_; (repeat (first | go_big_quiet_step ((go_at_call 62; (first | (with_reducible refine quiet_after (HCj.out _ ?_)) | (with_reducible refine quiet_after (HCi.out _ ?_))); (repeat' (first | (with_reducible exact Below.refl _ _) | (with_reducible assumption) | (with_reducible refine Below.alloc ?_ ?_ _) | (with_reducible refine Below.drew ?_) | (with_reducible refine below_drewN ?_ _) | (with_reducible refine Below.setCell ?_ ?_ _) | (with_reducible refine below_after ?_ ?_ _) | (with_reducible refine below_set ?_) | (with_reducible refine After.size_le _ ?_) | (with_reducible refine size_alloc_le ?_) | (with_reducible refine size_set_le ?_) | (with_reducible refine size_drewN_le ?_) | go_size)))) | (refine wpQuiet_step (fun K hK => ?_); go_simp; first | (refine hK _ ?_; clear hK K) | (apply Exists.intro; refine ⟨fun x => ?_, hK _ ?_⟩; (go_at_call 62; (first | (with_reducible refine quiet_after (HCj.out _ ?_)) | (with_reducible refine quiet_after (HCi.out _ ?_))); (repeat' (first | (with_reducible exact Below.refl _ _) | (with_reducible assumption) | (with_reducible refine Below.alloc ?_ ?_ _) | (with_reducible refine Below.drew ?_) | (with_reducible refine below_drewN ?_ _) | (with_reducible refine Below.setCell ?_ ?_ _) | (with_reducible refine below_after ?_ ?_ _) | (with_reducible refine below_set ?_) | (with_reducible refine After.size_le _ ?_) | (with_reducible refine size_alloc_le ?_) | (with_reducible refine size_set_le ?_) | (with_reducible refine size_drewN_le ?_) | go_size))); clear hK K)))); refine wpQuiet_nil ?_
                intro y
                go_wp2
                go_roundw
                case rel => exact ⟨j + 1, by omega, by go_num, by rw [HS.out, if_pos hNF], ⟨_, x2.out.trans (y.out.mono x2.out.size)⟩, rfl⟩
                case measure => simp [intOf]; omega
              · have hNFi : ¬ (N : Int) < (M : Int) := by omega
                go_wp2
                refine wp_region_after (by kernel_rfl) (by kernel_rfl) ?_; (repeat (first | go_big_quiet_step ((go_at_call 62; (first | (with_reducible refine quiet_after (HCj.out _ ?_)) | (with_reducible refine quiet_after (HCi.out _ ?_))); (repeat' (first | (with_reducible exact Below.refl _ _) | (with_reducible assumption) | (with_reducible refine Below.alloc ?_ ?_ _) | (with_reducible refine Below.drew ?_) | (with_reducible refine below_drewN ?_ _) | (with_reducible refine Below.setCell ?_ ?_ _) | (with_reducible refine below_after ?_ ?_ _) | (with_reducible refine below_set ?_) | (with_reducible refine After.size_le _ ?_) | (with_reducible refine size_alloc_le ?_) | (with_reducible refine size_set_le ?_) | (with_reducible refine size_drewN_le ?_) | go_size)))) | (refine wpQuiet_step (fun K hK => ?_); go_simp; first | (refine hK _ ?_; clear hK K) | (apply Exists.intro; refine ⟨fun x => ?_, hK _ ?_⟩; (go_at_call 62; (first | (with_reducible refine quiet_after (HCj.out _ ?_)) | (with_reducible refine quiet_after (HCi.out _ ?_))); (repeat' (first | (with_reducible exact Below.refl _ _) | (with_reducible assumption) | (with_reducible refine Below.alloc ?_ ?_ _) | (with_reducible refine Below.drew ?_) | (with_reducible refine below_drewN ?_ _) | (with_reducible refine Below.setCell ?_ ?_ _) | (with_reducible refine below_after ?_ ?_ _) | (with_reducible refine below_set ?_) | (with_reducible refine After.size_le _ ?_) | (with_reducible refine size_alloc_le ?_) | (with_reducible refine size_set_le ?_) | (with_reducible refine size_drewN_le ?_) | go_size))); clear hK K)))); refine wpQuiet_nil ?_
                intro y
                go_wp2
                go_roundw
                case rel => exact ⟨j + 1, by omega, by go_num, by rw [HS.out, if_neg hNF], ⟨_, x2.out.trans (y.out.mono x2.out.size)⟩, rfl⟩
                case measure => simp [intOf]; omega
            · obtain rfl : j = k := by omega
              go_wp2
              go_returns
              exact ⟨by rw [hE1.out.1, hE1.out.2]; rfl, by (repeat' (first | (with_reducible exact Below.refl _ _) | (with_reducible assumption) | (with_reducible refine Below.alloc ?_ ?_ _) | (with_reducible refine Below.drew ?_) | (with_reducible refine below_drewN ?_ _) | (with_reducible refine Below.setCell ?_ ?_ _) | (with_reducible refine below_after ?_ ?_ _) | (with_reducible refine below_set ?_) | (with_reducible refine After.size_le _ ?_) | (with_reducible refine size_alloc_le ?_) | (with_reducible refine size_set_le ?_) | (with_reducible refine size_drewN_le ?_) | go_size))⟩
        · have HBf := Lib.hid (HB.out false (decide_eq_false hb))
          have hE1 := Lib.hid (HE.out.2.1 hgood hb)
          clear HB HE hb
          go_wp2_with (go_at_call 59; refine (HBf.out _).mono ?_; rintro e w1 ⟨rfl, rfl⟩)
          go_returns
          exact ⟨by rw [hE1.out.1, hE1.out.2]; rfl, by (repeat' (first | (with_reducible exact Below.refl _ _) | (with_reducible assumption) | (with_reducible refine Below.alloc ?_ ?_ _) | (with_reducible refine Below.drew ?_) | (with_reducible refine below_drewN ?_ _) | (with_reducible refine Below.setCell ?_ ?_ _) | (with_reducible refine below_after ?_ ?_ _) | (with_reducible refine below_set ?_) | (with_reducible refine After.size_le _ ?_) | (with_reducible refine size_alloc_le ?_) | (with_reducible refine size_set_le ?_) | (with_reducible refine size_drewN_le ?_) | go_size))⟩
end
end Go.Proofs.YtlnlgboeohfpdaaDoor
