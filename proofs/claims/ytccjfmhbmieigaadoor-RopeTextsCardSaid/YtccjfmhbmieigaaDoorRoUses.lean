/- Uses and ropes that are valid, in both programs. -/
import Derived.Test.YtccjfmhbmieigaaDoorRoUsem
import Derived.Test.YtccjfmhbmieigaaDoorRoLoads
namespace Go.Proofs.YtccjfmhbmieigaaDoor.Ro
open Go.Proofs.YtccjfmhbmieigaaDoor
open Go.RowKit
attribute [local go_sem] After.cell After.frozen After.lt After.le After.ne After.ne' After.set_eq After.size_set After.lt_add

/-! ### Ropes -/
/-! ### Uses -/
/-- The day of the last one of the first k uses. -/
def lastN (ps : List (Int × Int)) (k : Nat) : Int := if k = 0 then 0 else (usAt ps (k - 1)).1
set_option maxRecDepth 100000 in
set_option maxHeartbeats 400000 in
theorem last_row (b off cap k : Nat) (ps : List (Int × Int)) (w : World) (hk : k ≤ ps.length) (hl : ps.length ≤ 1000) (hc : PrCells w b off ps) :
    Calls Tryd.prog 66 #[.slice (some ⟨b, off, none⟩) k cap] w fun e w' => e = .returned (.int .i64 (lastN ps k)) ∧ w = w' := by
  have HE : Hid (lastN ps k = if k = 0 then 0 else (usAt ps (k - 1)).1) := rfl
  by_cases h0 : k = 0
  · have e : lastN ps k = 0 := by rw [HE.out, if_pos h0]
    rw [e]
    subst h0
    clear HE e hc
    go_enter Tryd.func66, Tryd.ntmps66
    go_wp2
    go_ret
    exact ⟨rfl, rfl⟩
  · have e : lastN ps k = (ps.getD (k - 1) (0, 0)).1 := by rw [HE.out, if_neg h0]; rfl
    rw [e]
    obtain ⟨c1, c2⟩ := hc (k - 1) (by omega)
    have hk0 : ((k : Int) == 0) = false := beq_eq_false_iff_ne.2 (by omega)
    have hk1 : (1 : Int) ≤ (k : Int) := by omega
    have h00 : 0 < k := by omega
    generalize ps.getD (k - 1) (0, 0) = p at *
    obtain ⟨h, v⟩ := p
    dsimp only at *
    clear HE e hc c2 h0
    go_enter Tryd.func66, Tryd.ntmps66
    go_wp2
    go_ret
    exact ⟨rfl, rfl⟩

def FolN (ps : List (Int × Int)) (k : Nat) : Prop := k < 500 ∧ Btw (usAt ps k).1 (lastN ps k) 100000 ∧ Ld (usAt ps k).2
instance (ps : List (Int × Int)) (k : Nat) : Decidable (FolN ps k) := by unfold FolN; infer_instance
set_option maxRecDepth 100000 in
set_option maxHeartbeats 1000000 in
theorem follows_row (b off cap k : Nat) (ps : List (Int × Int)) (w : World) (hb : b < w.heap.size) (hk : k ≤ ps.length) (hl : ps.length ≤ 1000) (hc : PrCells w b off ps) :
    Calls Tryd.prog 34 #[.slice (some ⟨b, off, none⟩) k cap, .agg #[.int .i64 (usAt ps k).1, .int .i64 (usAt ps k).2]] w fun e w' => e = .returned (.bool (decide (FolN ps k))) ∧ Below w.heap.size w w' := by
  have HL : Hid (∀ W, Below w.heap.size w W → _) := fun W hW => last_row b off cap k ps W hk hl (prCells_on hb hc hW)
  by_cases h1 : k < 500
  · have d1 : decide ((k : Int) < 500) = true := decide_eq_true (by omega)
    by_cases h2 : Btw (usAt ps k).1 (lastN ps k) 100000
    · have e : decide (FolN ps k) = decide (Ld (usAt ps k).2) := by unfold FolN; simp [h1, h2]
      have HB := Lib.hid (fun w => between_t (usAt ps k).1 (lastN ps k) 100000 w h2)
      rw [e]
      have HD := Lib.hid (fun w => validLoad_any (usAt ps k).2 _ rfl w)
      generalize decide (Ld (usAt ps k).2) = g at *
      generalize (usAt ps k).1 = x at *
      generalize (usAt ps k).2 = y at *
      generalize lastN ps k = z at *
      clear hc h1 h2 e
      go_enter Tryd.func34, Tryd.ntmps34
      go_wp2_with fail
      refine wp_region_after (by kernel_rfl) (by kernel_rfl) ?_; (repeat (first | go_big_quiet_step ((first | (go_at_call 66; exact quiet_after_same (HL.out _ (by (repeat' (first | (with_reducible exact Below.refl _ _) | (with_reducible assumption) | (with_reducible refine Below.alloc ?_ ?_ _) | (with_reducible refine Below.drew ?_) | (with_reducible refine below_drewN ?_ _) | (with_reducible refine Below.setCell ?_ ?_ _) | (with_reducible refine below_after ?_ ?_ _) | (with_reducible refine below_set ?_) | (with_reducible refine After.size_le _ ?_) | (with_reducible refine size_alloc_le ?_) | (with_reducible refine size_set_le ?_) | (with_reducible refine size_drewN_le ?_) | go_size))))) | (go_at_call 65; exact quiet_after_same (HB.out _)) | (go_at_call 59; exact quiet_after_same (HD.out _)))) | (refine wpQuiet_step (fun K hK => ?_); go_simp; first | (refine hK _ ?_; clear hK K) | (apply Exists.intro; refine ⟨fun x => ?_, hK _ ?_⟩; (first | (go_at_call 66; exact quiet_after_same (HL.out _ (by (repeat' (first | (with_reducible exact Below.refl _ _) | (with_reducible assumption) | (with_reducible refine Below.alloc ?_ ?_ _) | (with_reducible refine Below.drew ?_) | (with_reducible refine below_drewN ?_ _) | (with_reducible refine Below.setCell ?_ ?_ _) | (with_reducible refine below_after ?_ ?_ _) | (with_reducible refine below_set ?_) | (with_reducible refine After.size_le _ ?_) | (with_reducible refine size_alloc_le ?_) | (with_reducible refine size_set_le ?_) | (with_reducible refine size_drewN_le ?_) | go_size))))) | (go_at_call 65; exact quiet_after_same (HB.out _)) | (go_at_call 59; exact quiet_after_same (HD.out _))); clear hK K)))); refine wpQuiet_nil ?_
      intro x1
      go_wp2
      go_ret
      exact ⟨rfl, by (repeat' (first | (with_reducible exact Below.refl _ _) | (with_reducible assumption) | (with_reducible refine Below.alloc ?_ ?_ _) | (with_reducible refine Below.drew ?_) | (with_reducible refine below_drewN ?_ _) | (with_reducible refine Below.setCell ?_ ?_ _) | (with_reducible refine below_after ?_ ?_ _) | (with_reducible refine below_set ?_) | (with_reducible refine After.size_le _ ?_) | (with_reducible refine size_alloc_le ?_) | (with_reducible refine size_set_le ?_) | (with_reducible refine size_drewN_le ?_) | go_size))⟩
    · have e : decide (FolN ps k) = false := by unfold FolN; simp [h2]
      have HB := Lib.hid (fun w => between_f (usAt ps k).1 (lastN ps k) 100000 w h2)
      rw [e]
      generalize (usAt ps k).1 = x at *
      generalize (usAt ps k).2 = y at *
      generalize lastN ps k = z at *
      clear hc h1 h2 e
      go_enter Tryd.func34, Tryd.ntmps34
      go_wp2_with fail
      refine wp_region_after (by kernel_rfl) (by kernel_rfl) ?_; (repeat (first | go_big_quiet_step ((first | (go_at_call 66; exact quiet_after_same (HL.out _ (by (repeat' (first | (with_reducible exact Below.refl _ _) | (with_reducible assumption) | (with_reducible refine Below.alloc ?_ ?_ _) | (with_reducible refine Below.drew ?_) | (with_reducible refine below_drewN ?_ _) | (with_reducible refine Below.setCell ?_ ?_ _) | (with_reducible refine below_after ?_ ?_ _) | (with_reducible refine below_set ?_) | (with_reducible refine After.size_le _ ?_) | (with_reducible refine size_alloc_le ?_) | (with_reducible refine size_set_le ?_) | (with_reducible refine size_drewN_le ?_) | go_size))))) | (go_at_call 65; exact quiet_after_same (HB.out _)))) | (refine wpQuiet_step (fun K hK => ?_); go_simp; first | (refine hK _ ?_; clear hK K) | (apply Exists.intro; refine ⟨fun x => ?_, hK _ ?_⟩; (first | (go_at_call 66; exact quiet_after_same (HL.out _ (by (repeat' (first | (with_reducible exact Below.refl _ _) | (with_reducible assumption) | (with_reducible refine Below.alloc ?_ ?_ _) | (with_reducible refine Below.drew ?_) | (with_reducible refine below_drewN ?_ _) | (with_reducible refine Below.setCell ?_ ?_ _) | (with_reducible refine below_after ?_ ?_ _) | (with_reducible refine below_set ?_) | (with_reducible refine After.size_le _ ?_) | (with_reducible refine size_alloc_le ?_) | (with_reducible refine size_set_le ?_) | (with_reducible refine size_drewN_le ?_) | go_size))))) | (go_at_call 65; exact quiet_after_same (HB.out _))); clear hK K)))); refine wpQuiet_nil ?_
      intro x1
      go_wp2
      go_ret
      exact ⟨rfl, by (repeat' (first | (with_reducible exact Below.refl _ _) | (with_reducible assumption) | (with_reducible refine Below.alloc ?_ ?_ _) | (with_reducible refine Below.drew ?_) | (with_reducible refine below_drewN ?_ _) | (with_reducible refine Below.setCell ?_ ?_ _) | (with_reducible refine below_after ?_ ?_ _) | (with_reducible refine below_set ?_) | (with_reducible refine After.size_le _ ?_) | (with_reducible refine size_alloc_le ?_) | (with_reducible refine size_set_le ?_) | (with_reducible refine size_drewN_le ?_) | go_size))⟩
  · have d1 : decide ((k : Int) < 500) = false := decide_eq_false (by omega)
    have e : decide (FolN ps k) = false := by unfold FolN; simp [h1]
    rw [e]
    generalize (usAt ps k).1 = x at *
    generalize (usAt ps k).2 = y at *
    clear hc h1 e HL
    go_enter Tryd.func34, Tryd.ntmps34
    go_wp2_with fail
    refine wp_region_after (by kernel_rfl) (by kernel_rfl) ?_; (repeat (first | go_big_quiet_step ((fail)) | (refine wpQuiet_step (fun K hK => ?_); go_simp; first | (refine hK _ ?_; clear hK K) | (apply Exists.intro; refine ⟨fun x => ?_, hK _ ?_⟩; (fail); clear hK K)))); refine wpQuiet_nil ?_
    intro x1
    go_wp2
    go_ret
    exact ⟨rfl, by (repeat' (first | (with_reducible exact Below.refl _ _) | (with_reducible assumption) | (with_reducible refine Below.alloc ?_ ?_ _) | (with_reducible refine Below.drew ?_) | (with_reducible refine below_drewN ?_ _) | (with_reducible refine Below.setCell ?_ ?_ _) | (with_reducible refine below_after ?_ ?_ _) | (with_reducible refine below_set ?_) | (with_reducible refine After.size_le _ ?_) | (with_reducible refine size_alloc_le ?_) | (with_reducible refine size_set_le ?_) | (with_reducible refine size_drewN_le ?_) | go_size))⟩
/-- If all uses before are valid, a use follows if it is. -/
theorem folN_ok {ps : List (Int × Int)} {k : Nat} (hk : k < ps.length) (h : ∀ j, j < k → OkU ps j) : FolN ps k ↔ k < 500 ∧ OkU ps k := by
  unfold FolN OkU lastN Dy Btw
  by_cases h0 : k = 0
  · subst h0; simp
  · have := (h (k - 1) (by omega)).1
    unfold Dy Btw at this
    rw [if_neg h0]
    constructor
    · rintro ⟨a, b, c⟩; exact ⟨a, by omega, c, fun _ => b.1⟩
    · rintro ⟨a, b, c, d⟩; exact ⟨a, ⟨d (by omega), b.2⟩, c⟩

set_option maxRecDepth 100000 in
set_option maxHeartbeats 1000000 in
theorem validUses_row (b off cap : Nat) (ps : List (Int × Int)) (w : World) (hb : b < w.heap.size) (hl : ps.length ≤ 1000) (hcap : ps.length ≤ cap) (_hcap2 : cap ≤ 9223372036854775807) (hc : PrCells w b off ps) :
    Calls Tryd.prog 35 #[.slice (some ⟨b, off, none⟩) ps.length cap] w fun e w' => e = .returned (.bool (decide (GoodU ps))) ∧ Below w.heap.size w w' := by
  have HC := Lib.hid hc
  have HF : Hid (∀ k, k ≤ ps.length → ∀ W, Below w.heap.size w W → _) := fun k hk W hW => follows_row b off cap k ps W (Nat.lt_of_lt_of_le hb hW.size) hk hl (prCells_on hb hc hW)
  clear hc
  go_enter Tryd.func35, Tryd.ntmps35
  go_wp2
  go_loopw [3, 4, 7] (fun u v i wr => ∃ k : Nat, k ≤ ps.length ∧ k ≤ 500 ∧ i = .int .i64 k ∧ (∀ j, j < k → OkU ps j) ∧ ∃ x : After w, wr = x.w) (fun _ _ i _ => ps.length - (intOf i).toNat)
  case atStart => exact ⟨0, by omega, by omega, rfl, fun j hj => absurd hj (by omega), ⟨w, Below.refl _ _⟩, rfl⟩
  case round =>
    obtain ⟨k, hk, hk5, rfl, ho, x, rfl⟩ := hrel
    have hbx := x.size_lt hb
    have HO := Lib.hid ho
    clear ho
    by_cases hlt : k < ps.length
    · obtain ⟨c1, c2⟩ := HC.out k hlt
      have HFk := Lib.hid (HF.out k hk)
      have HN := Lib.hid (folN_ok hlt HO.out)
      have HU : Hid (usAt ps k = ps.getD k (0, 0)) := rfl
      rw [HU.out] at HFk
      generalize ps.getD k (0, 0) = p at *
      obtain ⟨h, v⟩ := p
      dsimp only at *
      have hkc : k ≤ cap := by omega
      by_cases hF : FolN ps k
      · have HG := Lib.hid (HN.out.1 hF)
        rw [show decide (FolN ps k) = true by simp [hF]] at HFk
        clear hF
        go_wp2_with fail
        refine wp_region_after (by kernel_rfl) (by kernel_rfl) ?_; (repeat (first | go_big_quiet_step ((go_at_call 34; exact quiet_after (HFk.out _ (by (repeat' (first | (with_reducible exact Below.refl _ _) | (with_reducible assumption) | (with_reducible refine Below.alloc ?_ ?_ _) | (with_reducible refine Below.drew ?_) | (with_reducible refine below_drewN ?_ _) | (with_reducible refine Below.setCell ?_ ?_ _) | (with_reducible refine below_after ?_ ?_ _) | (with_reducible refine below_set ?_) | (with_reducible refine After.size_le _ ?_) | (with_reducible refine size_alloc_le ?_) | (with_reducible refine size_set_le ?_) | (with_reducible refine size_drewN_le ?_) | go_size)))))) | (refine wpQuiet_step (fun K hK => ?_); go_simp; first | (refine hK _ ?_; clear hK K) | (apply Exists.intro; refine ⟨fun x => ?_, hK _ ?_⟩; (go_at_call 34; exact quiet_after (HFk.out _ (by (repeat' (first | (with_reducible exact Below.refl _ _) | (with_reducible assumption) | (with_reducible refine Below.alloc ?_ ?_ _) | (with_reducible refine Below.drew ?_) | (with_reducible refine below_drewN ?_ _) | (with_reducible refine Below.setCell ?_ ?_ _) | (with_reducible refine below_after ?_ ?_ _) | (with_reducible refine below_set ?_) | (with_reducible refine After.size_le _ ?_) | (with_reducible refine size_alloc_le ?_) | (with_reducible refine size_set_le ?_) | (with_reducible refine size_drewN_le ?_) | go_size))))); clear hK K)))); refine wpQuiet_nil ?_
        intro y
        go_wp2
        go_roundw
        case rel => exact ⟨k + 1, by omega, by have := HG.out.1; omega, by go_num, fun j hj => by
          rcases Nat.lt_or_ge j k with hj' | hj'
          · exact HO.out j hj'
          · obtain rfl : j = k := by omega
            exact HG.out.2, ⟨_, below_after (x.out.alloc x.out.size _) (by simp; exact Nat.le_succ_of_le x.out.size) y⟩, rfl⟩
        case measure => simp [intOf]; omega
      · have HG := Lib.hid (mt HN.out.2 hF)
        rw [show decide (FolN ps k) = false by simp [hF]] at HFk
        clear hF
        go_wp2_with fail
        refine wp_region_after (by kernel_rfl) (by kernel_rfl) ?_; (repeat (first | go_big_quiet_step ((go_at_call 34; exact quiet_after (HFk.out _ (by (repeat' (first | (with_reducible exact Below.refl _ _) | (with_reducible assumption) | (with_reducible refine Below.alloc ?_ ?_ _) | (with_reducible refine Below.drew ?_) | (with_reducible refine below_drewN ?_ _) | (with_reducible refine Below.setCell ?_ ?_ _) | (with_reducible refine below_after ?_ ?_ _) | (with_reducible refine below_set ?_) | (with_reducible refine After.size_le _ ?_) | (with_reducible refine size_alloc_le ?_) | (with_reducible refine size_set_le ?_) | (with_reducible refine size_drewN_le ?_) | go_size)))))) | (refine wpQuiet_step (fun K hK => ?_); go_simp; first | (refine hK _ ?_; clear hK K) | (apply Exists.intro; refine ⟨fun x => ?_, hK _ ?_⟩; (go_at_call 34; exact quiet_after (HFk.out _ (by (repeat' (first | (with_reducible exact Below.refl _ _) | (with_reducible assumption) | (with_reducible refine Below.alloc ?_ ?_ _) | (with_reducible refine Below.drew ?_) | (with_reducible refine below_drewN ?_ _) | (with_reducible refine Below.setCell ?_ ?_ _) | (with_reducible refine below_after ?_ ?_ _) | (with_reducible refine below_set ?_) | (with_reducible refine After.size_le _ ?_) | (with_reducible refine size_alloc_le ?_) | (with_reducible refine size_set_le ?_) | (with_reducible refine size_drewN_le ?_) | go_size))))); clear hK K)))); refine wpQuiet_nil ?_
        intro y
        go_wp2
        go_ret
        exact ⟨ret_dec (by simp; exact fun hG => HG.out ⟨by have := hG.1; omega, hG.2 k hlt⟩), by (repeat' (first | (with_reducible exact Below.refl _ _) | (with_reducible assumption) | (with_reducible refine Below.alloc ?_ ?_ _) | (with_reducible refine Below.drew ?_) | (with_reducible refine below_drewN ?_ _) | (with_reducible refine Below.setCell ?_ ?_ _) | (with_reducible refine below_after ?_ ?_ _) | (with_reducible refine below_set ?_) | (with_reducible refine After.size_le _ ?_) | (with_reducible refine size_alloc_le ?_) | (with_reducible refine size_set_le ?_) | (with_reducible refine size_drewN_le ?_) | go_size))⟩
    · go_wp2
      go_ret
      exact ⟨ret_dec ⟨fun _ => ⟨by omega, fun j hj => HO.out j (by omega)⟩, fun _ => rfl⟩, by (repeat' (first | (with_reducible exact Below.refl _ _) | (with_reducible assumption) | (with_reducible refine Below.alloc ?_ ?_ _) | (with_reducible refine Below.drew ?_) | (with_reducible refine below_drewN ?_ _) | (with_reducible refine Below.setCell ?_ ?_ _) | (with_reducible refine below_after ?_ ?_ _) | (with_reducible refine below_set ?_) | (with_reducible refine After.size_le _ ?_) | (with_reducible refine size_alloc_le ?_) | (with_reducible refine size_set_le ?_) | (with_reducible refine size_drewN_le ?_) | go_size))⟩
set_option maxRecDepth 100000 in
theorem validUses_empty (a : Option Addr) (cap : Nat) (w : World) :
    Calls Tryd.prog 35 #[.slice a 0 cap] w fun e w' => e = .returned (.bool true) ∧ Below w.heap.size w w' := by
  go_enter Tryd.func35, Tryd.ntmps35
  go_wp2
  go_loopw [3, 4, 7] (fun u v i wr => i = .int .i64 0 ∧ wr = w) (fun _ _ _ _ => 0)
  case atStart => exact ⟨rfl, rfl⟩
  case round =>
    obtain ⟨rfl, rfl⟩ := hrel
    go_wp2
    go_ret
    exact ⟨rfl, by (repeat' (first | (with_reducible exact Below.refl _ _) | (with_reducible assumption) | (with_reducible refine Below.alloc ?_ ?_ _) | (with_reducible refine Below.drew ?_) | (with_reducible refine below_drewN ?_ _) | (with_reducible refine Below.setCell ?_ ?_ _) | (with_reducible refine below_after ?_ ?_ _) | (with_reducible refine below_set ?_) | (with_reducible refine After.size_le _ ?_) | (with_reducible refine size_alloc_le ?_) | (with_reducible refine size_set_le ?_) | (with_reducible refine size_drewN_le ?_) | go_size))⟩
end Go.Proofs.YtccjfmhbmieigaaDoor.Ro
