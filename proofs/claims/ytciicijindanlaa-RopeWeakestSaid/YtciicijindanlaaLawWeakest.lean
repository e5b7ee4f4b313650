/- RopeWeakest: the law's walk. -/
import Derived.Test.YtciicijindanlaaTestr
import Derived.Test.YtciicijindanlaaWeak
import Derived.Test.YtciicijindanlaaWeakr
namespace Go.Proofs.Ytciicijindanlaa
open Go.RowKit
attribute [local go_sem] After.cell After.frozen After.lt After.le After.ne After.ne' After.set_eq After.size_set After.lt_add

set_option maxRecDepth 100000 in
set_option maxHeartbeats 2000000 in
theorem ropeWeakest_all (n m : Nat) (R : Nat → Int × Int × Int) (U : Nat → List (Int × Int)) (v u : Value) (day : Int) (w : World) (hv : Rps w w.heap.size v n R) (hu : Uss w w.heap.size u m U) :
    Calls Try.prog 14 #[v, u, .int .i64 day] w fun e w' => e = .returned (.bool true) ∧ Below w.heap.size w w' := by
  have H1 : Hid (∀ W, Below w.heap.size w W → (∀ i, i < m → (U i).length ≤ 100) → _) := fun W hW hl => weakest_any n m R U v u day W (rps_on hv hW) (uss_on hu hW) hl
  have H2 : Hid (∀ W, Below w.heap.size w W → (∀ i, i < m → (U i).length ≤ 100) → _) := fun W hW hl => rweakest_any n m R U v u day W (rps_on hv hW) (uss_on hu hW) hl
  obtain ⟨a, cap, rfl, hn, _⟩ := hv
  obtain ⟨a', cap', rfl, hm, HU0⟩ := hu
  have HU := Lib.hid HU0
  clear HU0
  generalize wkV n m R U day = V at *
  generalize wkE n m R U day = E at *
  by_cases h1 : 40 < n
  · have d1 : decide ((40 : Int) < (n : Int)) = true := decide_eq_true (by omega)
    go_enter Try.func14, Try.ntmps14
    go_wp2_with fail
    refine calls_after (awake_any _) ?_
    intro x1
    go_wp2
    go_ret
    exact ⟨rfl, by (repeat' (first | (with_reducible exact Below.refl _ _) | (with_reducible assumption) | (with_reducible refine Below.alloc ?_ ?_ _) | (with_reducible refine Below.drew ?_) | (with_reducible refine below_drewN ?_ _) | (with_reducible refine Below.setCell ?_ ?_ _) | (with_reducible refine below_after ?_ ?_ _) | (with_reducible refine below_set ?_) | (with_reducible refine After.size_le _ ?_) | (with_reducible refine size_alloc_le ?_) | (with_reducible refine size_set_le ?_) | (with_reducible refine size_drewN_le ?_) | go_size))⟩
  · have d1 : decide ((40 : Int) < (n : Int)) = false := decide_eq_false (by omega)
    by_cases h2 : 40 < m
    · have d2 : decide ((40 : Int) < (m : Int)) = true := decide_eq_true (by omega)
      go_enter Try.func14, Try.ntmps14
      go_wp2_with fail
      refine calls_after (awake_any _) ?_
      intro x1
      go_wp2
      go_ret
      exact ⟨rfl, by (repeat' (first | (with_reducible exact Below.refl _ _) | (with_reducible assumption) | (with_reducible refine Below.alloc ?_ ?_ _) | (with_reducible refine Below.drew ?_) | (with_reducible refine below_drewN ?_ _) | (with_reducible refine Below.setCell ?_ ?_ _) | (with_reducible refine below_after ?_ ?_ _) | (with_reducible refine below_set ?_) | (with_reducible refine After.size_le _ ?_) | (with_reducible refine size_alloc_le ?_) | (with_reducible refine size_set_le ?_) | (with_reducible refine size_drewN_le ?_) | go_size))⟩
    · have d2 : decide ((40 : Int) < (m : Int)) = false := decide_eq_false (by omega)
      go_enter Try.func14, Try.ntmps14
      go_wp2_with fail
      go_loopw [7] (fun i wr => ∃ k : Nat, k ≤ m ∧ i = .int .i64 k ∧ Hid (∀ j, j < k → (U j).length ≤ 100) ∧ ∃ x : After w, wr = x.w) (fun i _ => m - (intOf i).toNat)
      case atStart => exact ⟨0, by omega, rfl, Lib.hid (fun j hj => absurd hj (by omega)), ⟨w, Below.refl _ _⟩, rfl⟩
      case round =>
        obtain ⟨k, hk, rfl, HL, x, rfl⟩ := hrel
        have hsx := x.out.size
        by_cases hlt : k < m
        · obtain ⟨b', off', rfl, hb', hc'⟩ := HU.out (by omega)
          obtain ⟨uv, c4, hp⟩ := hc' k hlt
          obtain ⟨au, cu, rfl⟩ := prc_slice hp
          have hbx' : b' < x.w.heap.size := by omega
          by_cases hg : (U k).length ≤ 100
          · have HL2 : Hid (∀ j, j < k + 1 → (U j).length ≤ 100) := fun j hj => by
              rcases Nat.lt_or_ge j k with h | h
              · exact HL.out j h
              · obtain rfl : j = k := by omega
                exact hg
            have d3 : decide ((100 : Int) < ((U k).length : Int)) = false := decide_eq_false (by omega)
            clear hc' hp H1 H2
            generalize (U k).length = lu at *
            go_wp2
            go_roundw
            case rel => exact ⟨k + 1, by omega, by go_num, HL2, x, rfl⟩
            case measure => simp [intOf]; omega
          · have d3 : decide ((100 : Int) < ((U k).length : Int)) = true := decide_eq_true (by omega)
            clear hc' hp H1 H2
            generalize (U k).length = lu at *
            go_wp2_with fail
            refine calls_after (awake_any _) ?_
            intro x1
            go_wp2
            go_ret
            exact ⟨rfl, by (repeat' (first | (with_reducible exact Below.refl _ _) | (with_reducible assumption) | (with_reducible refine Below.alloc ?_ ?_ _) | (with_reducible refine Below.drew ?_) | (with_reducible refine below_drewN ?_ _) | (with_reducible refine Below.setCell ?_ ?_ _) | (with_reducible refine below_after ?_ ?_ _) | (with_reducible refine below_set ?_) | (with_reducible refine After.size_le _ ?_) | (with_reducible refine size_alloc_le ?_) | (with_reducible refine size_set_le ?_) | (with_reducible refine size_drewN_le ?_) | go_size))⟩
        · obtain rfl : k = m := by omega
          have HA := Lib.hid (fun W hW => H1.out W hW HL.out)
          have HB := Lib.hid (fun W hW => H2.out W hW HL.out)
          clear H1 H2 HL
          go_wp2_with fail
          refine calls_after2 (HA.out _ (by (repeat' (first | (with_reducible exact Below.refl _ _) | (with_reducible assumption) | (with_reducible refine Below.alloc ?_ ?_ _) | (with_reducible refine Below.drew ?_) | (with_reducible refine below_drewN ?_ _) | (with_reducible refine Below.setCell ?_ ?_ _) | (with_reducible refine below_after ?_ ?_ _) | (with_reducible refine below_set ?_) | (with_reducible refine After.size_le _ ?_) | (with_reducible refine size_alloc_le ?_) | (with_reducible refine size_set_le ?_) | (with_reducible refine size_drewN_le ?_) | go_size)))) ?_
          intro x1
          clear HA
          go_wp2_with fail
          refine calls_after2 (HB.out _ (by (repeat' (first | (with_reducible exact Below.refl _ _) | (with_reducible assumption) | (with_reducible refine Below.alloc ?_ ?_ _) | (with_reducible refine Below.drew ?_) | (with_reducible refine below_drewN ?_ _) | (with_reducible refine Below.setCell ?_ ?_ _) | (with_reducible refine below_after ?_ ?_ _) | (with_reducible refine below_set ?_) | (with_reducible refine After.size_le _ ?_) | (with_reducible refine size_alloc_le ?_) | (with_reducible refine size_set_le ?_) | (with_reducible refine size_drewN_le ?_) | go_size)))) ?_
          intro x2
          clear HB
          go_wp2_with fail
          refine calls_after2 (awake_any _) ?_
          intro x3
          go_wp2
          go_ret
          exact ⟨rfl, by (repeat' (first | (with_reducible exact Below.refl _ _) | (with_reducible assumption) | (with_reducible refine Below.alloc ?_ ?_ _) | (with_reducible refine Below.drew ?_) | (with_reducible refine below_drewN ?_ _) | (with_reducible refine Below.setCell ?_ ?_ _) | (with_reducible refine below_after ?_ ?_ _) | (with_reducible refine below_set ?_) | (with_reducible refine After.size_le _ ?_) | (with_reducible refine size_alloc_le ?_) | (with_reducible refine size_set_le ?_) | (with_reducible refine size_drewN_le ?_) | go_size))⟩
end Go.Proofs.Ytciicijindanlaa
