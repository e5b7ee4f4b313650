/- The reference's test of uses. -/
import Derived.Test.YtccjfmhbmieigaaDoorRoUses
namespace Go.Proofs.YtccjfmhbmieigaaDoor.Ro
open Go.Proofs.YtccjfmhbmieigaaDoor
open Go.RowKit
attribute [local go_sem] After.cell After.frozen After.lt After.le After.ne After.ne' After.set_eq After.size_set After.lt_add

set_option maxRecDepth 100000 in
set_option maxHeartbeats 2000000 in
theorem rvalidUses_row (b off cap : Nat) (ps : List (Int × Int)) (w : World) (hb : b < w.heap.size) (hl : ps.length ≤ 1000) (hc : PrCells w b off ps) :
    Calls Tryd.prog 17 #[.slice (some ⟨b, off, none⟩) ps.length cap] w fun e w' => e = .returned (.bool (decide (GoodU ps))) ∧ Below w.heap.size w w' := by
  have HC := Lib.hid hc
  have HD : Hid (∀ n W, Calls Tryd.prog 37 #[.int .i64 n, .int .i64 0, .int .i64 100000] W fun e w' => e = .returned (.bool (decide (Dy n))) ∧ W = w') := fun n W => within_any n 0 100000 W
  have HL : Hid (∀ n W, Calls Tryd.prog 38 #[.int .i64 n] W fun e w' => e = .returned (.bool (decide (Ld n))) ∧ W = w') := fun n W => rload_any n _ rfl W
  clear hc
  go_enter Tryd.func17, Tryd.ntmps17
  go_wp2
  go_loopw [3] (fun i wr => ∃ k : Nat, k ≤ ps.length ∧ i = .int .i64 k ∧ (∀ j, j < k → OkU ps j) ∧ ∃ x : After w, wr = x.w) (fun i _ => ps.length - (intOf i).toNat)
  case atStart => exact ⟨0, by omega, rfl, fun j hj => absurd hj (by omega), ⟨w, Below.refl _ _⟩, rfl⟩
  case round =>
    obtain ⟨k, hk, rfl, ho, x, rfl⟩ := hrel
    have hbx := x.size_lt hb
    have HO := Lib.hid ho
    clear ho
    by_cases hlt : k < ps.length
    · obtain ⟨c1, c2⟩ := HC.out k hlt
      have C3 : Hid (0 < k → w.cell? ⟨b, off + (k - 1) * 2, none⟩ = some (.int .i64 (ps.getD (k - 1) (0, 0)).1)) := fun h0 => (HC.out (k - 1) (by omega)).1
      have HK : Hid (OkU ps k ↔ Dy (ps.getD k (0, 0)).1 ∧ Ld (ps.getD k (0, 0)).2 ∧ (0 < k → (ps.getD (k - 1) (0, 0)).1 ≤ (ps.getD k (0, 0)).1)) := Iff.rfl
      generalize ps.getD k (0, 0) = p at *
      generalize ps.getD (k - 1) (0, 0) = q at *
      obtain ⟨h, v⟩ := p
      obtain ⟨h', v'⟩ := q
      dsimp only at c1 c2 C3 HK
      have HDk := Lib.hid (HD.out h)
      have HLk := Lib.hid (HL.out v)
      by_cases h1 : Dy h
      · rw [show decide (Dy h) = true by simp [h1]] at HDk
        have G1 := Lib.hid h1
        clear h1
        by_cases h2 : Ld v
        · rw [show decide (Ld v) = true by simp [h2]] at HLk
          have G2 := Lib.hid h2
          clear h2
          by_cases hk0 : 0 < k
          · have c3 := C3.out hk0
            have hk1 : (1 : Int) ≤ (k : Int) := by omega
            have hkd : decide (0 < (k : Int)) = true := decide_eq_true (by omega)
            have hkd' : decide (0 < k) = true := decide_eq_true hk0
            by_cases hu : h' ≤ h
            · have hud : decide (h < h') = false := decide_eq_false (by omega)
              go_wp2_with fail
              refine wp_region_after (by kernel_rfl) (by kernel_rfl) ?_; (repeat (first | go_big_quiet_step ((first | (go_at_call 37; exact quiet_after_same (HDk.out _)) | (go_at_call 38; exact quiet_after_same (HLk.out _)))) | (refine wpQuiet_step (fun K hK => ?_); go_simp; first | (refine hK _ ?_; clear hK K) | (apply Exists.intro; refine ⟨fun x => ?_, hK _ ?_⟩; (first | (go_at_call 37; exact quiet_after_same (HDk.out _)) | (go_at_call 38; exact quiet_after_same (HLk.out _))); clear hK K)))); refine wpQuiet_nil ?_
              intro y
              go_wp2
              go_roundw
              case rel => exact ⟨k + 1, by omega, by go_num, fun j hj => by
                rcases Nat.lt_or_ge j k with hj' | hj'
                · exact HO.out j hj'
                · obtain rfl : j = k := by omega
                  exact HK.out.2 ⟨G1.out, G2.out, fun _ => hu⟩, ⟨_, below_after x.out x.out.size y⟩, rfl⟩
              case measure => simp [intOf]; omega
            · have hud : decide (h < h') = true := decide_eq_true (by omega)
              go_wp2_with fail
              refine wp_region_after (by kernel_rfl) (by kernel_rfl) ?_; (repeat (first | go_big_quiet_step ((first | (go_at_call 37; exact quiet_after_same (HDk.out _)) | (go_at_call 38; exact quiet_after_same (HLk.out _)))) | (refine wpQuiet_step (fun K hK => ?_); go_simp; first | (refine hK _ ?_; clear hK K) | (apply Exists.intro; refine ⟨fun x => ?_, hK _ ?_⟩; (first | (go_at_call 37; exact quiet_after_same (HDk.out _)) | (go_at_call 38; exact quiet_after_same (HLk.out _))); clear hK K)))); refine wpQuiet_nil ?_
              intro y
              go_wp2
              go_ret
              exact ⟨ret_dec (by simp; exact fun hG => by have := (HK.out.1 (hG.2 k hlt)).2.2 hk0; omega), by (repeat' (first | (with_reducible exact Below.refl _ _) | (with_reducible assumption) | (with_reducible refine Below.alloc ?_ ?_ _) | (with_reducible refine Below.drew ?_) | (with_reducible refine below_drewN ?_ _) | (with_reducible refine Below.setCell ?_ ?_ _) | (with_reducible refine below_after ?_ ?_ _) | (with_reducible refine below_set ?_) | (with_reducible refine After.size_le _ ?_) | (with_reducible refine size_alloc_le ?_) | (with_reducible refine size_set_le ?_) | (with_reducible refine size_drewN_le ?_) | go_size))⟩
          · go_wp2_with fail
            refine wp_region_after (by kernel_rfl) (by kernel_rfl) ?_; (repeat (first | go_big_quiet_step ((first | (go_at_call 37; exact quiet_after_same (HDk.out _)) | (go_at_call 38; exact quiet_after_same (HLk.out _)))) | (refine wpQuiet_step (fun K hK => ?_); go_simp; first | (refine hK _ ?_; clear hK K) | (apply Exists.intro; refine ⟨fun x => ?_, hK _ ?_⟩; (first | (go_at_call 37; exact quiet_after_same (HDk.out _)) | (go_at_call 38; exact quiet_after_same (HLk.out _))); clear hK K)))); refine wpQuiet_nil ?_
            intro y
            go_wp2
            go_roundw
            case rel => exact ⟨k + 1, by omega, by go_num, fun j hj => by
              rcases Nat.lt_or_ge j k with hj' | hj'
              · exact HO.out j hj'
              · obtain rfl : j = k := by omega
                exact HK.out.2 ⟨G1.out, G2.out, fun h => absurd h hk0⟩, ⟨_, below_after x.out x.out.size y⟩, rfl⟩
            case measure => simp [intOf]; omega
        · rw [show decide (Ld v) = false by simp [h2]] at HLk
          have G2 := Lib.hid h2
          clear h2
          go_wp2_with fail
          refine wp_region_after (by kernel_rfl) (by kernel_rfl) ?_; (repeat (first | go_big_quiet_step ((first | (go_at_call 37; exact quiet_after_same (HDk.out _)) | (go_at_call 38; exact quiet_after_same (HLk.out _)))) | (refine wpQuiet_step (fun K hK => ?_); go_simp; first | (refine hK _ ?_; clear hK K) | (apply Exists.intro; refine ⟨fun x => ?_, hK _ ?_⟩; (first | (go_at_call 37; exact quiet_after_same (HDk.out _)) | (go_at_call 38; exact quiet_after_same (HLk.out _))); clear hK K)))); refine wpQuiet_nil ?_
          intro y
          go_wp2
          go_ret
          exact ⟨ret_dec (by simp; exact fun hG => G2.out (HK.out.1 (hG.2 k hlt)).2.1), by (repeat' (first | (with_reducible exact Below.refl _ _) | (with_reducible assumption) | (with_reducible refine Below.alloc ?_ ?_ _) | (with_reducible refine Below.drew ?_) | (with_reducible refine below_drewN ?_ _) | (with_reducible refine Below.setCell ?_ ?_ _) | (with_reducible refine below_after ?_ ?_ _) | (with_reducible refine below_set ?_) | (with_reducible refine After.size_le _ ?_) | (with_reducible refine size_alloc_le ?_) | (with_reducible refine size_set_le ?_) | (with_reducible refine size_drewN_le ?_) | go_size))⟩
      · rw [show decide (Dy h) = false by simp [h1]] at HDk
        have G1 := Lib.hid h1
        clear h1
        go_wp2_with fail
        refine wp_region_after (by kernel_rfl) (by kernel_rfl) ?_; (repeat (first | go_big_quiet_step ((first | (go_at_call 37; exact quiet_after_same (HDk.out _)) | (go_at_call 38; exact quiet_after_same (HLk.out _)))) | (refine wpQuiet_step (fun K hK => ?_); go_simp; first | (refine hK _ ?_; clear hK K) | (apply Exists.intro; refine ⟨fun x => ?_, hK _ ?_⟩; (first | (go_at_call 37; exact quiet_after_same (HDk.out _)) | (go_at_call 38; exact quiet_after_same (HLk.out _))); clear hK K)))); refine wpQuiet_nil ?_
        intro y
        go_wp2
        go_ret
        exact ⟨ret_dec (by simp; exact fun hG => G1.out (HK.out.1 (hG.2 k hlt)).1), by (repeat' (first | (with_reducible exact Below.refl _ _) | (with_reducible assumption) | (with_reducible refine Below.alloc ?_ ?_ _) | (with_reducible refine Below.drew ?_) | (with_reducible refine below_drewN ?_ _) | (with_reducible refine Below.setCell ?_ ?_ _) | (with_reducible refine below_after ?_ ?_ _) | (with_reducible refine below_set ?_) | (with_reducible refine After.size_le _ ?_) | (with_reducible refine size_alloc_le ?_) | (with_reducible refine size_set_le ?_) | (with_reducible refine size_drewN_le ?_) | go_size))⟩
    · by_cases h5 : ps.length ≤ 500
      · have hd : decide ((ps.length : Int) ≤ 500) = true := decide_eq_true (by omega)
        go_wp2
        go_ret
        exact ⟨ret_dec ⟨fun _ => ⟨h5, fun j hj => HO.out j (by omega)⟩, fun _ => by first | rfl | (simp; omega)⟩, by (repeat' (first | (with_reducible exact Below.refl _ _) | (with_reducible assumption) | (with_reducible refine Below.alloc ?_ ?_ _) | (with_reducible refine Below.drew ?_) | (with_reducible refine below_drewN ?_ _) | (with_reducible refine Below.setCell ?_ ?_ _) | (with_reducible refine below_after ?_ ?_ _) | (with_reducible refine below_set ?_) | (with_reducible refine After.size_le _ ?_) | (with_reducible refine size_alloc_le ?_) | (with_reducible refine size_set_le ?_) | (with_reducible refine size_drewN_le ?_) | go_size))⟩
      · have hd : decide ((ps.length : Int) ≤ 500) = false := decide_eq_false (by omega)
        go_wp2
        go_ret
        exact ⟨ret_dec ⟨fun h => by first | (cases h; done) | (simp at h; omega), fun hG => absurd hG.1 h5⟩, by (repeat' (first | (with_reducible exact Below.refl _ _) | (with_reducible assumption) | (with_reducible refine Below.alloc ?_ ?_ _) | (with_reducible refine Below.drew ?_) | (with_reducible refine below_drewN ?_ _) | (with_reducible refine Below.setCell ?_ ?_ _) | (with_reducible refine below_after ?_ ?_ _) | (with_reducible refine below_set ?_) | (with_reducible refine After.size_le _ ?_) | (with_reducible refine size_alloc_le ?_) | (with_reducible refine size_set_le ?_) | (with_reducible refine size_drewN_le ?_) | go_size))⟩
set_option maxRecDepth 100000 in
theorem rvalidUses_empty (a : Option Addr) (cap : Nat) (w : World) :
    Calls Tryd.prog 17 #[.slice a 0 cap] w fun e w' => e = .returned (.bool true) ∧ Below w.heap.size w w' := by
  go_enter Tryd.func17, Tryd.ntmps17
  go_wp2
  go_loopw [3] (fun i wr => i = .int .i64 0 ∧ wr = w) (fun _ _ => 0)
  case atStart => exact ⟨rfl, rfl⟩
  case round =>
    obtain ⟨rfl, rfl⟩ := hrel
    go_wp2
    go_ret
    exact ⟨rfl, by (repeat' (first | (with_reducible exact Below.refl _ _) | (with_reducible assumption) | (with_reducible refine Below.alloc ?_ ?_ _) | (with_reducible refine Below.drew ?_) | (with_reducible refine below_drewN ?_ _) | (with_reducible refine Below.setCell ?_ ?_ _) | (with_reducible refine below_after ?_ ?_ _) | (with_reducible refine below_set ?_) | (with_reducible refine After.size_le _ ?_) | (with_reducible refine size_alloc_le ?_) | (with_reducible refine size_set_le ?_) | (with_reducible refine size_drewN_le ?_) | go_size))⟩
end Go.Proofs.YtccjfmhbmieigaaDoor.Ro
