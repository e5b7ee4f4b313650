/- Gusts and rules that are valid, in both programs. -/
import Derived.Test.YtfmoedlnjlkiiaaDoorProg
import Derived.Test.YtfmoedlnjlkiiaaDoorAfter
import Derived.Test.YtfmoedlnjlkiiaaDoorWdm
import Derived.WalkKit
import Derived.WalkSpells
import Derived.WalkLawsBesides
import Derived.Deep.QuietTactic
import Derived.BigQuiet
import Derived.Deep.RegionHeld3
import Derived.Deep.RegionWith
import Derived.RegionTactic
import Derived.LoopTactic
import Derived.Lib.Hide
import Derived.Below
import Derived.KernelRfl
import Derived.Handy
import Derived.StillTailTactics
namespace Go.Proofs.YtfmoedlnjlkiiaaDoor
open Go.RowKit
attribute [local go_sem] After.cell After.frozen After.lt After.le After.ne After.ne' After.set_eq After.size_set After.lt_add

theorem ret_dec {p : Prop} [Decidable p] {a : Bool} (h : a = true ↔ p) : Ending.returned (.bool a) = .returned (.bool (decide p)) := by
  by_cases hp : p
  · simp [hp, h.2 hp]
  · have : a = false := by cases a with | false => rfl | true => exact absurd (h.1 rfl) hp
    simp [hp, this]
def Btw (n a b : Int) : Prop := a ≤ n ∧ n ≤ b
instance (n a b : Int) : Decidable (Btw n a b) := by unfold Btw; infer_instance
theorem between_any (n a b : Int) (w : World) :
    Calls Tryd.prog 58 #[.int .i64 n, .int .i64 a, .int .i64 b] w fun e w' => e = .returned (.bool (decide (Btw n a b))) ∧ w = w' := by
  go_enter Tryd.func58, Tryd.ntmps58
  go_wp2
  all_goals
    go_ret
    exact ⟨ret_dec (by unfold Btw; simp; omega), rfl⟩
theorem rwithin_any (n a b : Int) (w : World) :
    Calls Tryd.prog 59 #[.int .i64 n, .int .i64 a, .int .i64 b] w fun e w' => e = .returned (.bool (decide (Btw n a b))) ∧ w = w' := by
  go_enter Tryd.func59, Tryd.ntmps59
  go_wp2
  all_goals
    go_ret
    exact ⟨ret_dec (by unfold Btw; simp; omega), rfl⟩
theorem between_b (n a b : Int) (w : World) {x : Bool} (h : decide (Btw n a b) = x) : Calls Tryd.prog 58 #[.int .i64 n, .int .i64 a, .int .i64 b] w fun e w' => e = .returned (.bool x) ∧ w = w' := by
  subst h; exact between_any n a b w
theorem rwithin_b (n a b : Int) (w : World) {x : Bool} (h : decide (Btw n a b) = x) : Calls Tryd.prog 59 #[.int .i64 n, .int .i64 a, .int .i64 b] w fun e w' => e = .returned (.bool x) ∧ w = w' := by
  subst h; exact rwithin_any n a b w
/-- The ends of a part of minutes. -/
def Wth (f t n : Int) : Prop := 0 ≤ f ∧ f ≤ t ∧ t ≤ n
instance (f t n : Int) : Decidable (Wth f t n) := by unfold Wth; infer_instance
theorem within_any (f t n : Int) (w : World) :
    Calls Tryd.prog 61 #[.int .i64 f, .int .i64 t, .int .i64 n] w fun e w' => e = .returned (.bool (decide (Wth f t n))) ∧ w = w' := by
  go_enter Tryd.func61, Tryd.ntmps61
  go_wp2
  all_goals
    go_ret
    exact ⟨ret_dec (by unfold Wth; simp; omega), rfl⟩
theorem within_b (f t n : Int) (w : World) {x : Bool} (h : decide (Wth f t n) = x) : Calls Tryd.prog 61 #[.int .i64 f, .int .i64 t, .int .i64 n] w fun e w' => e = .returned (.bool x) ∧ w = w' := by
  subst h; exact within_any f t n w

/-! ### Rules -/
def GoodRu (s g c : Int) : Prop := Btw s 1 200 ∧ Btw g 1 s ∧ Btw c 1 240
instance (s g c : Int) : Decidable (GoodRu s g c) := by unfold GoodRu; infer_instance
set_option maxRecDepth 100000 in
set_option maxHeartbeats 400000 in
theorem validRule_any (s g c : Int) (w : World) :
    Calls Tryd.prog 16 #[.agg #[.int .i64 s, .int .i64 g, .int .i64 c]] w fun e w' => e = .returned (.bool (decide (GoodRu s g c))) ∧ Below w.heap.size w w' := by
  have H1 := Lib.hid (fun w => between_any s 1 200 w)
  have H2 := Lib.hid (fun w => between_any g 1 s w)
  have H3 := Lib.hid (fun w => between_any c 1 240 w)
  have e : decide (GoodRu s g c) = (decide (Btw s 1 200) && decide (Btw g 1 s) && decide (Btw c 1 240)) := by
    by_cases h1 : Btw s 1 200 <;> by_cases h2 : Btw g 1 s <;> by_cases h3 : Btw c 1 240 <;> simp [GoodRu, h1, h2, h3]
  rw [e]
  generalize decide (Btw s 1 200) = b1 at *
  generalize decide (Btw g 1 s) = b2 at *
  generalize decide (Btw c 1 240) = b3 at *
  clear e
  cases b1 <;> cases b2 <;> (
    go_enter Tryd.func16, Tryd.ntmps16
    go_wp2_with (go_at_call 58; (first | (with_reducible refine (H1.out _).mono ?_) | (with_reducible refine (H2.out _).mono ?_) | (with_reducible refine (H3.out _).mono ?_)); rintro e w1 ⟨rfl, rfl⟩)
    go_ret
    exact ⟨rfl, by (repeat' (first | (with_reducible exact Below.refl _ _) | (with_reducible assumption) | (with_reducible refine Below.alloc ?_ ?_ _) | (with_reducible refine Below.drew ?_) | (with_reducible refine below_drewN ?_ _) | (with_reducible refine Below.setCell ?_ ?_ _) | (with_reducible refine below_after ?_ ?_ _) | (with_reducible refine below_set ?_) | (with_reducible refine After.size_le _ ?_) | (with_reducible refine size_alloc_le ?_) | (with_reducible refine size_set_le ?_) | (with_reducible refine size_drewN_le ?_) | go_size))⟩)
set_option maxRecDepth 100000 in
set_option maxHeartbeats 400000 in
theorem rvalidRule_any (s g c : Int) (w : World) :
    Calls Tryd.prog 17 #[.agg #[.int .i64 s, .int .i64 g, .int .i64 c]] w fun e w' => e = .returned (.bool (decide (GoodRu s g c))) ∧ Below w.heap.size w w' := by
  have H1 := Lib.hid (fun w => rwithin_any s 1 200 w)
  have H2 := Lib.hid (fun w => rwithin_any g 1 s w)
  have H3 := Lib.hid (fun w => rwithin_any c 1 240 w)
  have e : decide (GoodRu s g c) = (decide (Btw s 1 200) && decide (Btw g 1 s) && decide (Btw c 1 240)) := by
    by_cases h1 : Btw s 1 200 <;> by_cases h2 : Btw g 1 s <;> by_cases h3 : Btw c 1 240 <;> simp [GoodRu, h1, h2, h3]
  rw [e]
  generalize decide (Btw s 1 200) = b1 at *
  generalize decide (Btw g 1 s) = b2 at *
  generalize decide (Btw c 1 240) = b3 at *
  clear e
  cases b1 <;> cases b2 <;> (
    go_enter Tryd.func17, Tryd.ntmps17
    go_wp2_with (go_at_call 59; (first | (with_reducible refine (H1.out _).mono ?_) | (with_reducible refine (H2.out _).mono ?_) | (with_reducible refine (H3.out _).mono ?_)); rintro e w1 ⟨rfl, rfl⟩)
    go_ret
    exact ⟨rfl, by (repeat' (first | (with_reducible exact Below.refl _ _) | (with_reducible assumption) | (with_reducible refine Below.alloc ?_ ?_ _) | (with_reducible refine Below.drew ?_) | (with_reducible refine below_drewN ?_ _) | (with_reducible refine Below.setCell ?_ ?_ _) | (with_reducible refine below_after ?_ ?_ _) | (with_reducible refine below_set ?_) | (with_reducible refine After.size_le _ ?_) | (with_reducible refine size_alloc_le ?_) | (with_reducible refine size_set_le ?_) | (with_reducible refine size_drewN_le ?_) | go_size))⟩)

/-! ### Gusts -/
/-- Where a slice's numbers lie. -/
def IAt (W : World) (a : Option Addr) (n : Nat) (f : Nat → Int) : Prop := ∀ k, k < n → ∃ b off, a = some ⟨b, off, none⟩ ∧ b < W.heap.size ∧ W.cell? ⟨b, off + k, none⟩ = some (.int .i64 (f k))
theorem IAt.on {w W : World} {a : Option Addr} {n : Nat} {f : Nat → Int} (h : IAt w a n f) (hb : Below w.heap.size w W) : IAt W a n f := fun k hk => by
  obtain ⟨b, off, e, h1, h2⟩ := h k hk
  exact ⟨b, off, e, Nat.lt_of_lt_of_le h1 hb.size, (hb.cell (p := ⟨b, off + k, none⟩) h1).trans h2⟩
/-- A slice of numbers, with its room. -/
structure Ins (W : World) (v : Value) (n : Nat) (f : Nat → Int) : Prop where
  is : ∃ a cap, v = .slice a n cap ∧ n ≤ cap ∧ cap ≤ 9223372036854775807 ∧ IAt W a n f
theorem Ins.on {w W : World} {v : Value} {n : Nat} {f : Nat → Int} (h : Ins w v n f) (hb : Below w.heap.size w W) : Ins W v n f := by
  obtain ⟨a, cap, e, h1, h2, h3⟩ := h.is
  exact ⟨a, cap, e, h1, h2, h3.on hb⟩
/-- Gusts that are valid. -/
def OkG (x : Int) : Prop := Btw x (-1) 200
instance (x : Int) : Decidable (OkG x) := by unfold OkG; infer_instance
def GoodG (n : Nat) (f : Nat → Int) : Prop := n ≤ 2000 ∧ ∀ k, k < n → OkG (f k)
instance (n : Nat) (f : Nat → Int) : Decidable (GoodG n f) := by unfold GoodG; infer_instance

theorem bad_any (x : Int) (w : World) :
    Calls Tryd.prog 57 #[.int .i64 x] w fun e w' => e = .returned (.bool (!decide (OkG x))) ∧ w = w' := by
  have H : Hid (∀ w, Calls Tryd.prog 58 #[.int .i64 x, .int .i64 (-1), .int .i64 200] w fun e w' => e = .returned (.bool (decide (OkG x))) ∧ w = w') := Lib.hid (fun w => between_any x (-1) 200 w)
  generalize decide (OkG x) = b at *
  go_enter Tryd.func57, Tryd.ntmps57
  go_wp2_with (go_at_call 58; refine (H.out _).mono ?_; rintro e w1 ⟨rfl, rfl⟩)
  go_ret
  exact ⟨rfl, rfl⟩
set_option maxRecDepth 100000 in
set_option maxHeartbeats 1000000 in
theorem indexFunc_bad (a : Option Addr) (n cap : Nat) (f : Nat → Int) (w : World) (hA : IAt w a n f) (hn : n ≤ 2000) :
    Calls Tryd.prog 78 #[.slice a n cap, .func (.func 57) #[] #[]] w fun e w' => (∃ r : Int, e = .returned (.int .i64 r) ∧ decide (0 ≤ r) = !decide (∀ k, k < n → OkG (f k))) ∧ Below w.heap.size w w' := by
  have HA := Lib.hid hA
  have hnI : (n : Int) ≤ 2000 := by omega
  clear hA
  go_enter Tryd.func78, Tryd.ntmps78
  go_wp2
  go_loopw [8] (fun i wr => ∃ k : Nat, k ≤ n ∧ i = .int .i64 k ∧ (∀ j, j < k → OkG (f j)) ∧ ∃ x : After w, wr = x.w) (fun i _ => n - (intOf i).toNat)
  case atStart => exact ⟨0, by omega, rfl, fun j hj => absurd hj (by omega), ⟨w, Below.refl _ _⟩, rfl⟩
  case round =>
    obtain ⟨k, hk, rfl, ho, x, rfl⟩ := hrel
    have HO := Lib.hid ho
    clear ho
    by_cases hlt : k < n
    · obtain ⟨b, off, rfl, hb, hc⟩ := HA.out k hlt
      have hbx := x.size_lt hb
      have HK := Lib.hid (fun W => bad_any (f k) W)
      obtain ⟨g, hg⟩ : ∃ g, decide (OkG (f k)) = g := ⟨_, rfl⟩
      have HG := Lib.hid hg
      rw [hg] at HK
      clear hg
      cases g
      · go_wp2_with (go_at_call 57; refine (HK.out _).mono ?_; rintro e w1 ⟨rfl, rfl⟩)
        go_ret
        exact ⟨⟨k, rfl, by rw [decide_eq_true (by omega : (0 : Int) ≤ k), decide_eq_false (fun h => of_decide_eq_false HG.out (h k hlt))]; rfl⟩, by (repeat' (first | (with_reducible exact Below.refl _ _) | (with_reducible assumption) | (with_reducible refine Below.alloc ?_ ?_ _) | (with_reducible refine Below.drew ?_) | (with_reducible refine below_drewN ?_ _) | (with_reducible refine Below.setCell ?_ ?_ _) | (with_reducible refine below_after ?_ ?_ _) | (with_reducible refine below_set ?_) | (with_reducible refine After.size_le _ ?_) | (with_reducible refine size_alloc_le ?_) | (with_reducible refine size_set_le ?_) | (with_reducible refine size_drewN_le ?_) | go_size))⟩
      · go_wp2_with (go_at_call 57; refine (HK.out _).mono ?_; rintro e w1 ⟨rfl, rfl⟩)
        go_roundw
        case rel => exact ⟨k + 1, by omega, by go_num, fun j hj => by
          rcases Nat.lt_or_ge j k with hj' | hj'
          · exact HO.out j hj'
          · obtain rfl : j = k := by omega
            exact of_decide_eq_true HG.out, x, rfl⟩
        case measure => simp [intOf]; omega
    · go_wp2
      go_ret
      exact ⟨⟨-1, rfl, by rw [decide_eq_true (fun j hj => HO.out j (by omega))]; rfl⟩, by (repeat' (first | (with_reducible exact Below.refl _ _) | (with_reducible assumption) | (with_reducible refine Below.alloc ?_ ?_ _) | (with_reducible refine Below.drew ?_) | (with_reducible refine below_drewN ?_ _) | (with_reducible refine Below.setCell ?_ ?_ _) | (with_reducible refine below_after ?_ ?_ _) | (with_reducible refine below_set ?_) | (with_reducible refine After.size_le _ ?_) | (with_reducible refine size_alloc_le ?_) | (with_reducible refine size_set_le ?_) | (with_reducible refine size_drewN_le ?_) | go_size))⟩
end Go.Proofs.YtfmoedlnjlkiiaaDoor
