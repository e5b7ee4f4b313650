/- Marks that have moved: the program and the reference. -/
import Derived.Test.YtdhobjflfhijjaaMks
import Derived.Lib.SmallJoins
import Derived.Deep.AppendLies
import Derived.Laws.OwnMore
namespace Go.Proofs.Ytdhobjflfhijjaa
open Go.RowKit
attribute [local go_sem] After.cell After.frozen After.lt After.le After.ne After.ne' After.set_eq After.size_set After.lt_add

/-- What both tests of surveys say of a slice's value, in every world behind w. -/
def MSay (w : World) (v : Value) (b : Bool) : Prop := ∀ W, Below w.heap.size w W → Calls Try.prog 19 #[v] W fun e w' => e = .returned (.bool b) ∧ Below W.heap.size W w'
def RMSay (w : World) (v : Value) (b : Bool) : Prop := ∀ W, Below w.heap.size w W → Calls Try.prog 20 #[v] W fun e w' => e = .returned (.bool b) ∧ Below W.heap.size W w'

set_option maxRecDepth 100000 in
theorem sameHeight_any (a1 a2 a3 b1 b2 b3 : Int) (w : World) :
    Calls Try.prog 97 #[.agg #[.int .i64 a1, .int .i64 a2, .int .i64 a3], .agg #[.int .i64 b1, .int .i64 b2, .int .i64 b3]] w fun x w' => x = .returned (.bool (a1 == b1)) ∧ Below w.heap.size w w' := by
  go_enter Try.func97, Try.ntmps97
  go_wp2
  go_ret
  exact ⟨rfl, by (repeat' (first | (with_reducible exact Below.refl _ _) | (with_reducible assumption) | (with_reducible refine Below.alloc ?_ ?_ _) | (with_reducible refine Below.drew ?_) | (with_reducible refine below_drewN ?_ _) | (with_reducible refine Below.setCell ?_ ?_ _) | (with_reducible refine below_after ?_ ?_ _) | (with_reducible refine below_set ?_) | (with_reducible refine After.size_le _ ?_) | (with_reducible refine size_alloc_le ?_) | (with_reducible refine size_set_le ?_) | (with_reducible refine size_drewN_le ?_) | go_size))⟩
theorem apart_any (a b y : Int) (w : World) (ha : -10000 ≤ a ∧ a ≤ 10000) (hb : -10000 ≤ b ∧ b ≤ 10000) (_hy : 0 ≤ y) :
    Calls Try.prog 98 #[.int .i64 a, .int .i64 b, .int .i64 y] w fun x w' => x = .returned (.bool (decide (y < (a - b).natAbs))) ∧ w = w' := by
  obtain ⟨h1, h2⟩ := ha
  obtain ⟨h3, h4⟩ := hb
  go_enter Try.func98, Try.ntmps98
  go_wp2
  all_goals
    go_ret
    exact ⟨ret_dec (by simp; omega), rfl⟩

def hEq (n : Nat) (f g : Nat → Nat → Int) : Prop := ∀ k, k < n → f k 0 = g k 0
instance (n : Nat) (f g : Nat → Nat → Int) : Decidable (hEq n f g) := by unfold hEq; infer_instance

set_option maxRecDepth 100000 in
set_option maxHeartbeats 1000000 in
theorem equalFunc_any (b off cap b' off' cap' n : Nat) (f g : Nat → Nat → Int) (w : World) (hb : b < w.heap.size) (hb' : b' < w.heap.size) (hlen : n ≤ 1000) (hc : MkCells w b off n f) (hc' : MkCells w b' off' n g) :
    Calls Try.prog 96 #[.slice (some ⟨b, off, none⟩) n cap, .slice (some ⟨b', off', none⟩) n cap', .func (.func 97) #[] #[]] w fun e w' => e = .returned (.bool (decide (hEq n f g))) ∧ Below w.heap.size w w' := by
  have HC := Lib.hid hc
  have HC' := Lib.hid hc'
  clear hc hc'
  go_enter Try.func96, Try.ntmps96
  go_wp2
  go_loopw [17] (fun i wr => ∃ k : Nat, k ≤ n ∧ i = .int .i64 k ∧ hEq k f g ∧ ∃ x : After w, wr = x.w) (fun i _ => n - (intOf i).toNat)
  case atStart => exact ⟨0, by omega, rfl, fun j hj => absurd hj (by omega), ⟨w, Below.refl _ _⟩, rfl⟩
  case round =>
    obtain ⟨k, hk, rfl, ho, x, rfl⟩ := hrel
    have hbx := x.size_lt hb
    have hbx' := x.size_lt hb'
    have hbx2 : b' < x.w.heap.size + 1 := by omega
    have HO := Lib.hid ho
    clear ho
    by_cases hlt : k < n
    · obtain ⟨c1, c2, c3⟩ := HC.out k hlt
      obtain ⟨d1, d2, d3⟩ := HC'.out k hlt
      cases hE : (f k 0 == g k 0)
      · have HE := Lib.hid hE
        have HS := Lib.hid (fun w => sameHeight_any (f k 0) (f k 1) (f k 2) (g k 0) (g k 1) (g k 2) w)
        rw [hE] at HS
        clear hE
        (go_wp2_with fail); refine calls_after (HS.out _) ?_; intro y
        go_wp2
        go_ret
        exact ⟨ret_dec (by simp; exact fun hG => by have := HE.out; rw [hG k hlt] at this; simp at this), by (repeat' (first | (with_reducible exact Below.refl _ _) | (with_reducible assumption) | (with_reducible refine Below.alloc ?_ ?_ _) | (with_reducible refine Below.drew ?_) | (with_reducible refine below_drewN ?_ _) | (with_reducible refine Below.setCell ?_ ?_ _) | (with_reducible refine below_after ?_ ?_ _) | (with_reducible refine below_set ?_) | (with_reducible refine After.size_le _ ?_) | (with_reducible refine size_alloc_le ?_) | (with_reducible refine size_set_le ?_) | (with_reducible refine size_drewN_le ?_) | go_size))⟩
      · have HE := Lib.hid hE
        have HS := Lib.hid (fun w => sameHeight_any (f k 0) (f k 1) (f k 2) (g k 0) (g k 1) (g k 2) w)
        rw [hE] at HS
        clear hE
        (go_wp2_with fail); refine calls_after (HS.out _) ?_; intro y
        go_wp2
        go_roundw
        case rel => exact ⟨k + 1, by omega, by go_num, fun j hj => by
          rcases Nat.lt_or_ge j k with hj' | hj'
          · exact HO.out j hj'
          · obtain rfl : j = k := by omega
            simpa using HE.out, ⟨_, below_after ((x.out.alloc x.out.size _).alloc (by simp; exact Nat.le_succ_of_le x.out.size) _) (by simp; have := x.out.size; omega) y⟩, rfl⟩
        case measure => simp [intOf]; omega
    · obtain rfl : k = n := by omega
      go_wp2
      go_ret
      exact ⟨ret_dec ⟨fun _ => HO.out, fun _ => rfl⟩, by (repeat' (first | (with_reducible exact Below.refl _ _) | (with_reducible assumption) | (with_reducible refine Below.alloc ?_ ?_ _) | (with_reducible refine Below.drew ?_) | (with_reducible refine below_drewN ?_ _) | (with_reducible refine Below.setCell ?_ ?_ _) | (with_reducible refine below_after ?_ ?_ _) | (with_reducible refine below_set ?_) | (with_reducible refine After.size_le _ ?_) | (with_reducible refine size_alloc_le ?_) | (with_reducible refine size_set_le ?_) | (with_reducible refine size_drewN_le ?_) | go_size))⟩
end Go.Proofs.Ytdhobjflfhijjaa
