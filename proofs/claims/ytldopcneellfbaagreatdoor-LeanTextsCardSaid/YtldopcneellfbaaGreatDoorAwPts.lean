/- Lists of points in memory; what both ValidPoints come to. -/
import Derived.Test.YtldopcneellfbaaGreatDoorAwTests
import Derived.Handy
namespace Go.Proofs.YtldopcneellfbaaGreatDoor.Aw
open Go.Proofs.YtldopcneellfbaaGreatDoor
open Go.RowKit
attribute [local go_sem] After.cell After.frozen After.lt After.le After.ne After.ne' After.set_eq After.size_set After.lt_add

/-- The slice value v holds the points ps in the world W, in a block below B. -/
def Pts (W : World) (B : Nat) (v : Value) (ps : List (Int × Int)) : Prop :=
  (∃ a cap, v = .slice a 0 cap ∧ ps = []) ∨
  ∃ b off cap, v = .slice (some ⟨b, off, none⟩) ps.length cap ∧ b < B ∧ ps.length ≤ 9223372036854775807 ∧ ∀ i, i < ps.length → W.cell? ⟨b, off + i * 2, none⟩ = some (.int .i64 (ps.getD i (0, 0)).1) ∧ W.cell? ⟨b, off + i * 2 + 1, none⟩ = some (.int .i64 (ps.getD i (0, 0)).2)

/-- The points from the first on rise and lie in their bounds: what both tests look at, place by place. -/
def OkAt (ps : List (Int × Int)) (k : Nat) : Prop := InPt (ps.getD k (0, 0)).1 (ps.getD k (0, 0)).2 ∧ (0 < k → (ps.getD (k - 1) (0, 0)).1 < (ps.getD k (0, 0)).1)
instance (ps : List (Int × Int)) (k : Nat) : Decidable (OkAt ps k) := by unfold OkAt; infer_instance
def GoodPts (ps : List (Int × Int)) : Prop := 1 ≤ ps.length ∧ ps.length ≤ 40 ∧ ∀ k, k < ps.length → OkAt ps k
instance (ps : List (Int × Int)) : Decidable (GoodPts ps) := by unfold GoodPts; infer_instance

theorem validPoint_t (h x : Int) (w : World) (hp : InPt h x) :
    Calls Tryz.prog 43 #[.agg #[.int .i64 h, .int .i64 x]] w fun e w' => e = .returned (.bool true) ∧ Below w.heap.size w w' :=
  (validPoint_any h x w).mono fun _ _ ⟨h1, h2⟩ => ⟨by rw [h1]; simp [hp], h2⟩
theorem validPoint_f (h x : Int) (w : World) (hp : ¬ InPt h x) :
    Calls Tryz.prog 43 #[.agg #[.int .i64 h, .int .i64 x]] w fun e w' => e = .returned (.bool false) ∧ Below w.heap.size w w' :=
  (validPoint_any h x w).mono fun _ _ ⟨h1, h2⟩ => ⟨by rw [h1]; simp [hp], h2⟩

set_option maxRecDepth 100000 in
set_option maxHeartbeats 1000000 in
theorem validPoints_any (b off cap : Nat) (ps : List (Int × Int)) (w : World) (hb : b < w.heap.size) (hlen : ps.length ≤ 1000)
    (hc : ∀ i, i < ps.length → w.cell? ⟨b, off + i * 2, none⟩ = some (.int .i64 (ps.getD i (0, 0)).1) ∧ w.cell? ⟨b, off + i * 2 + 1, none⟩ = some (.int .i64 (ps.getD i (0, 0)).2)) :
    Calls Tryz.prog 22 #[.slice (some ⟨b, off, none⟩) ps.length cap] w fun e w' => e = .returned (.bool (decide (GoodPts ps))) ∧ Below w.heap.size w w' := by
  have HC := Lib.hid hc
  clear hc
  by_cases h1 : 1 ≤ ps.length
  · by_cases h2 : ps.length ≤ 40
    · have d1 : decide ((ps.length : Int) ≤ 40) = true := by simp; omega
      go_enter Tryz.func22, Tryz.ntmps22
      go_wp2
      go_loopw [3, 4, 11] (fun i3 i4 i wr => ∃ k : Nat, k ≤ ps.length ∧ i = .int .i64 k ∧ (∀ j, j < k → OkAt ps j) ∧ ∃ x : After w, wr = x.w) (fun _ _ i _ => ps.length - (intOf i).toNat)
      case atStart => exact ⟨0, by omega, rfl, fun j hj => absurd hj (by omega), ⟨w, Below.refl _ _⟩, rfl⟩
      case round =>
        obtain ⟨k, hk, rfl, ho, x, rfl⟩ := hrel
        have hbx := x.size_lt hb
        have HO := Lib.hid ho
        clear ho
        by_cases hlt : k < ps.length
        · obtain ⟨c1, c2⟩ := HC.out k hlt
          have C3 : Hid (0 < k → w.cell? ⟨b, off + (k - 1) * 2, none⟩ = some (.int .i64 (ps.getD (k - 1) (0, 0)).1)) := fun h0 => (HC.out (k - 1) (by omega)).1
          have HK : Hid (OkAt ps k ↔ InPt (ps.getD k (0, 0)).1 (ps.getD k (0, 0)).2 ∧ (0 < k → (ps.getD (k - 1) (0, 0)).1 < (ps.getD k (0, 0)).1)) := Iff.rfl
          generalize ps.getD k (0, 0) = p at *
          generalize ps.getD (k - 1) (0, 0) = q at *
          obtain ⟨h, v⟩ := p
          obtain ⟨h', v'⟩ := q
          dsimp only at c1 c2 C3 HK
          by_cases hp : InPt h v
          · have HP := Lib.hid hp
            clear hp
            by_cases hk0 : 0 < k
            · have c3 := C3.out hk0
              have hk1 : (1 : Int) ≤ (k : Int) := by omega
              by_cases hu : h' < h
              · go_wp2
                refine wp_region_after (by kernel_rfl) (by kernel_rfl) ?_; (repeat (first | go_big_quiet_step ((go_at_call 43; exact quiet_after (validPoint_t _ _ _ HP.out))) | (refine wpQuiet_step (fun K hK => ?_); go_simp; first | (refine hK _ ?_; clear hK K) | (apply Exists.intro; refine ⟨fun x => ?_, hK _ ?_⟩; (go_at_call 43; exact quiet_after (validPoint_t _ _ _ HP.out)); clear hK K)))); refine wpQuiet_nil ?_
                intro y
                go_wp2
                go_roundw
                case rel => exact ⟨k + 1, by omega, by go_num, fun j hj => by
                  rcases Nat.lt_or_ge j k with hj' | hj'
                  · exact HO.out j hj'
                  · obtain rfl : j = k := by omega
                    exact HK.out.2 ⟨HP.out, fun _ => hu⟩, ⟨_, below_after (x.out.alloc x.out.size _) (by simp; exact Nat.le_succ_of_le x.out.size) y⟩, rfl⟩
                case measure => simp [intOf]; omega
              · go_wp2
                refine wp_region_after (by kernel_rfl) (by kernel_rfl) ?_; (repeat (first | go_big_quiet_step ((go_at_call 43; exact quiet_after (validPoint_t _ _ _ HP.out))) | (refine wpQuiet_step (fun K hK => ?_); go_simp; first | (refine hK _ ?_; clear hK K) | (apply Exists.intro; refine ⟨fun x => ?_, hK _ ?_⟩; (go_at_call 43; exact quiet_after (validPoint_t _ _ _ HP.out)); clear hK K)))); refine wpQuiet_nil ?_
                intro y
                go_wp2
                go_ret
                exact ⟨ret_dec (by simp; exact fun hG => by have := (HK.out.1 (hG.2.2 k hlt)).2 hk0; omega), by (repeat' (first | (with_reducible exact Below.refl _ _) | (with_reducible assumption) | (with_reducible refine Below.alloc ?_ ?_ _) | (with_reducible refine Below.drew ?_) | (with_reducible refine below_drewN ?_ _) | (with_reducible refine Below.setCell ?_ ?_ _) | (with_reducible refine below_after ?_ ?_ _) | (with_reducible refine below_set ?_) | (with_reducible refine After.size_le _ ?_) | (with_reducible refine size_alloc_le ?_) | (with_reducible refine size_set_le ?_) | (with_reducible refine size_drewN_le ?_) | go_size))⟩
            · go_wp2
              refine wp_region_after (by kernel_rfl) (by kernel_rfl) ?_; (repeat (first | go_big_quiet_step ((go_at_call 43; exact quiet_after (validPoint_t _ _ _ HP.out))) | (refine wpQuiet_step (fun K hK => ?_); go_simp; first | (refine hK _ ?_; clear hK K) | (apply Exists.intro; refine ⟨fun x => ?_, hK _ ?_⟩; (go_at_call 43; exact quiet_after (validPoint_t _ _ _ HP.out)); clear hK K)))); refine wpQuiet_nil ?_
              intro y
              go_wp2
              go_roundw
              case rel => exact ⟨k + 1, by omega, by go_num, fun j hj => by
                rcases Nat.lt_or_ge j k with hj' | hj'
                · exact HO.out j hj'
                · obtain rfl : j = k := by omega
                  exact HK.out.2 ⟨HP.out, fun h => absurd h hk0⟩, ⟨_, below_after (x.out.alloc x.out.size _) (by simp; exact Nat.le_succ_of_le x.out.size) y⟩, rfl⟩
              case measure => simp [intOf]; omega
          · have HP := Lib.hid hp
            clear hp
            go_wp2
            refine wp_region_after (by kernel_rfl) (by kernel_rfl) ?_; (repeat (first | go_big_quiet_step ((go_at_call 43; exact quiet_after (validPoint_f _ _ _ HP.out))) | (refine wpQuiet_step (fun K hK => ?_); go_simp; first | (refine hK _ ?_; clear hK K) | (apply Exists.intro; refine ⟨fun x => ?_, hK _ ?_⟩; (go_at_call 43; exact quiet_after (validPoint_f _ _ _ HP.out)); clear hK K)))); refine wpQuiet_nil ?_
            intro y
            go_wp2
            go_ret
            exact ⟨ret_dec (by simp; exact fun hG => HP.out (HK.out.1 (hG.2.2 k hlt)).1), by (repeat' (first | (with_reducible exact Below.refl _ _) | (with_reducible assumption) | (with_reducible refine Below.alloc ?_ ?_ _) | (with_reducible refine Below.drew ?_) | (with_reducible refine below_drewN ?_ _) | (with_reducible refine Below.setCell ?_ ?_ _) | (with_reducible refine below_after ?_ ?_ _) | (with_reducible refine below_set ?_) | (with_reducible refine After.size_le _ ?_) | (with_reducible refine size_alloc_le ?_) | (with_reducible refine size_set_le ?_) | (with_reducible refine size_drewN_le ?_) | go_size))⟩
        · go_wp2
          go_ret
          exact ⟨ret_dec ⟨fun _ => ⟨h1, h2, fun j hj => HO.out j (by omega)⟩, fun _ => rfl⟩, by (repeat' (first | (with_reducible exact Below.refl _ _) | (with_reducible assumption) | (with_reducible refine Below.alloc ?_ ?_ _) | (with_reducible refine Below.drew ?_) | (with_reducible refine below_drewN ?_ _) | (with_reducible refine Below.setCell ?_ ?_ _) | (with_reducible refine below_after ?_ ?_ _) | (with_reducible refine below_set ?_) | (with_reducible refine After.size_le _ ?_) | (with_reducible refine size_alloc_le ?_) | (with_reducible refine size_set_le ?_) | (with_reducible refine size_drewN_le ?_) | go_size))⟩
    · have d1 : decide ((ps.length : Int) ≤ 40) = false := by simp; omega
      go_enter Tryz.func22, Tryz.ntmps22
      go_wp2
      go_ret
      exact ⟨ret_dec (by simp; exact fun hG => h2 hG.2.1), by (repeat' (first | (with_reducible exact Below.refl _ _) | (with_reducible assumption) | (with_reducible refine Below.alloc ?_ ?_ _) | (with_reducible refine Below.drew ?_) | (with_reducible refine below_drewN ?_ _) | (with_reducible refine Below.setCell ?_ ?_ _) | (with_reducible refine below_after ?_ ?_ _) | (with_reducible refine below_set ?_) | (with_reducible refine After.size_le _ ?_) | (with_reducible refine size_alloc_le ?_) | (with_reducible refine size_set_le ?_) | (with_reducible refine size_drewN_le ?_) | go_size))⟩
  · go_enter Tryz.func22, Tryz.ntmps22
    go_wp2
    go_ret
    exact ⟨ret_dec (by simp; exact fun hG => h1 hG.1), by (repeat' (first | (with_reducible exact Below.refl _ _) | (with_reducible assumption) | (with_reducible refine Below.alloc ?_ ?_ _) | (with_reducible refine Below.drew ?_) | (with_reducible refine below_drewN ?_ _) | (with_reducible refine Below.setCell ?_ ?_ _) | (with_reducible refine below_after ?_ ?_ _) | (with_reducible refine below_set ?_) | (with_reducible refine After.size_le _ ?_) | (with_reducible refine size_alloc_le ?_) | (with_reducible refine size_set_le ?_) | (with_reducible refine size_drewN_le ?_) | go_size))⟩
end Go.Proofs.YtldopcneellfbaaGreatDoor.Aw
