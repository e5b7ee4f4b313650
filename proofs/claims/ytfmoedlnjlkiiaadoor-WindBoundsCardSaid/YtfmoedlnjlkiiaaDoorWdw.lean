/- What is asked of a rule and gusts, in both programs. -/
import Derived.Test.YtfmoedlnjlkiiaaDoorWdi
import Derived.Test.YtfmoedlnjlkiiaaDoorWdr
namespace Go.Proofs.YtfmoedlnjlkiiaaDoor
open Go.RowKit
attribute [local go_sem] After.cell After.frozen After.lt After.le After.ne After.ne' After.set_eq After.size_set After.lt_add

theorem goodG_not {n : Nat} {f : Nat → Int} (h : n ≤ 2000) : decide (GoodG n f) = decide (∀ k, k < n → OkG (f k)) := decide_eq_decide.2 ⟨fun hg => hg.2, fun hk => ⟨h, hk⟩⟩
set_option maxRecDepth 100000 in
set_option maxHeartbeats 1000000 in
theorem contains_bad (a : Option Addr) (n cap : Nat) (f : Nat → Int) (w : World) (hA : IAt w a n f) (hn : n ≤ 2000) :
    Calls Tryd.prog 56 #[.slice a n cap, .func (.func 57) #[] #[]] w fun e w' => e = .returned (.bool (!decide (GoodG n f))) ∧ Below w.heap.size w w' := by
  have H := Lib.hid (indexFunc_bad a n cap f w hA hn)
  rw [goodG_not hn]
  generalize decide (∀ k, k < n → OkG (f k)) = g at *
  go_enter Tryd.func56, Tryd.ntmps56
  go_wp2_with fail
  refine H.out.mono ?_
  rintro e w1 ⟨⟨r, rfl, hr⟩, hb⟩
  have hr' := Lib.hid hr
  clear hr
  go_wp2
  go_ret
  exact ⟨by rw [← hr'.out]; rfl, hb⟩
set_option maxRecDepth 100000 in
set_option maxHeartbeats 1000000 in
theorem validGusts_any (a : Option Addr) (n cap : Nat) (f : Nat → Int) (w : World) (hA : IAt w a n f) :
    Calls Tryd.prog 14 #[.slice a n cap] w fun e w' => e = .returned (.bool (decide (GoodG n f))) ∧ Below w.heap.size w w' := by
  by_cases hn : n ≤ 2000
  · have hnI : (n : Int) ≤ 2000 := by omega
    have H := Lib.hid (contains_bad a n cap f w hA hn)
    generalize decide (GoodG n f) = g at *
    go_enter Tryd.func14, Tryd.ntmps14
    go_wp2_with fail
    refine H.out.mono ?_
    rintro e w1 ⟨rfl, hb⟩
    go_wp2
    go_ret
    exact ⟨by simp, hb⟩
  · have hnI : ¬ ((n : Int) ≤ 2000) := by omega
    rw [decide_eq_false (fun h : GoodG n f => hn h.1)]
    go_enter Tryd.func14, Tryd.ntmps14
    go_wp2
    go_ret
    exact ⟨rfl, Below.refl _ _⟩
set_option maxRecDepth 100000 in
set_option maxHeartbeats 1000000 in
theorem rvalidGusts_any (a : Option Addr) (n cap : Nat) (f : Nat → Int) (w : World) (hA : IAt w a n f) (hcap : n ≤ 9223372036854775807) :
    Calls Tryd.prog 15 #[.slice a n cap] w fun e w' => e = .returned (.bool (decide (GoodG n f))) ∧ Below w.heap.size w w' := by
  have HA := Lib.hid hA
  have hnI : (n : Int) ≤ 9223372036854775807 := by omega
  clear hA
  go_enter Tryd.func15, Tryd.ntmps15
  go_wp2
  go_loopw [3] (fun i wr => ∃ k : Nat, k ≤ n ∧ i = .int .i64 k ∧ (∀ j, j < k → OkG (f j)) ∧ ∃ x : After w, wr = x.w) (fun i _ => n - (intOf i).toNat)
  case atStart => exact ⟨0, by omega, rfl, fun j hj => absurd hj (by omega), ⟨w, Below.refl _ _⟩, rfl⟩
  case round =>
    obtain ⟨k, hk, rfl, ho, x, rfl⟩ := hrel
    have HO := Lib.hid ho
    clear ho
    by_cases hlt : k < n
    · have hltI : (k : Int) < (n : Int) := by omega
      obtain ⟨b, off, rfl, hb, hc⟩ := HA.out k hlt
      have hbx := x.size_lt hb
      have HK : Hid (∀ W, Calls Tryd.prog 59 #[.int .i64 (f k), .int .i64 (-1), .int .i64 200] W fun e w' => e = .returned (.bool (decide (OkG (f k)))) ∧ W = w') := Lib.hid (fun W => rwithin_any (f k) (-1) 200 W)
      obtain ⟨g, hg⟩ : ∃ g, decide (OkG (f k)) = g := ⟨_, rfl⟩
      have HG := Lib.hid hg
      rw [hg] at HK
      clear hg
      cases g
      · go_wp2_with (go_at_call 59; refine (HK.out _).mono ?_; rintro e w1 ⟨rfl, rfl⟩)
        go_ret
        exact ⟨ret_dec ⟨fun h => by simp at h, fun hG => absurd (hG.2 k hlt) (of_decide_eq_false HG.out)⟩, by (repeat' (first | (with_reducible exact Below.refl _ _) | (with_reducible assumption) | (with_reducible refine Below.alloc ?_ ?_ _) | (with_reducible refine Below.drew ?_) | (with_reducible refine below_drewN ?_ _) | (with_reducible refine Below.setCell ?_ ?_ _) | (with_reducible refine below_after ?_ ?_ _) | (with_reducible refine below_set ?_) | (with_reducible refine After.size_le _ ?_) | (with_reducible refine size_alloc_le ?_) | (with_reducible refine size_set_le ?_) | (with_reducible refine size_drewN_le ?_) | go_size))⟩
      · go_wp2_with (go_at_call 59; refine (HK.out _).mono ?_; rintro e w1 ⟨rfl, rfl⟩)
        go_roundw
        case rel => exact ⟨k + 1, by omega, by go_num, fun j hj => by
          rcases Nat.lt_or_ge j k with hj' | hj'
          · exact HO.out j hj'
          · obtain rfl : j = k := by omega
            exact of_decide_eq_true HG.out, x, rfl⟩
        case measure => simp [intOf]; omega
    · by_cases h5 : n ≤ 2000
      · have hd : decide ((n : Int) ≤ 2000) = true := decide_eq_true (by omega)
        go_wp2
        go_ret
        exact ⟨ret_dec ⟨fun _ => ⟨h5, fun j hj => HO.out j (by omega)⟩, fun _ => by first | rfl | (simp; omega)⟩, by (repeat' (first | (with_reducible exact Below.refl _ _) | (with_reducible assumption) | (with_reducible refine Below.alloc ?_ ?_ _) | (with_reducible refine Below.drew ?_) | (with_reducible refine below_drewN ?_ _) | (with_reducible refine Below.setCell ?_ ?_ _) | (with_reducible refine below_after ?_ ?_ _) | (with_reducible refine below_set ?_) | (with_reducible refine After.size_le _ ?_) | (with_reducible refine size_alloc_le ?_) | (with_reducible refine size_set_le ?_) | (with_reducible refine size_drewN_le ?_) | go_size))⟩
      · have hd : decide ((n : Int) ≤ 2000) = false := decide_eq_false (by omega)
        go_wp2
        go_ret
        exact ⟨ret_dec ⟨fun h => by first | (cases h; done) | (simp at h; omega), fun hG => absurd hG.1 h5⟩, by (repeat' (first | (with_reducible exact Below.refl _ _) | (with_reducible assumption) | (with_reducible refine Below.alloc ?_ ?_ _) | (with_reducible refine Below.drew ?_) | (with_reducible refine below_drewN ?_ _) | (with_reducible refine Below.setCell ?_ ?_ _) | (with_reducible refine below_after ?_ ?_ _) | (with_reducible refine below_set ?_) | (with_reducible refine After.size_le _ ?_) | (with_reducible refine size_alloc_le ?_) | (with_reducible refine size_set_le ?_) | (with_reducible refine size_drewN_le ?_) | go_size))⟩

/-- A rule and gusts that are valid. -/
def AskB (s g c : Int) (n : Nat) (f : Nat → Int) : Bool := decide (GoodG n f) && decide (GoodRu s g c)
set_option maxRecDepth 100000 in
set_option maxHeartbeats 1000000 in
theorem valid_any (s g c : Int) (a : Option Addr) (n cap : Nat) (f : Nat → Int) (w : World) (hA : IAt w a n f) :
    Calls Tryd.prog 50 #[waV s g c a n cap] w fun e w' => e = .returned (.bool (AskB s g c n f)) ∧ Below w.heap.size w w' := by
  have H1 := Lib.hid (fun W (hW : Below w.heap.size w W) => validGusts_any a n cap f W (hA.on hW))
  have H2 := Lib.hid (fun W => validRule_any s g c W)
  unfold AskB waV
  generalize decide (GoodG n f) = p at *
  generalize decide (GoodRu s g c) = q at *
  cases p
  · go_enter Tryd.func50, Tryd.ntmps50
    go_wp2_with fail
    refine calls_after (H1.out _ (by (repeat' (first | (with_reducible exact Below.refl _ _) | (with_reducible assumption) | (with_reducible refine Below.alloc ?_ ?_ _) | (with_reducible refine Below.drew ?_) | (with_reducible refine below_drewN ?_ _) | (with_reducible refine Below.setCell ?_ ?_ _) | (with_reducible refine below_after ?_ ?_ _) | (with_reducible refine below_set ?_) | (with_reducible refine After.size_le _ ?_) | (with_reducible refine size_alloc_le ?_) | (with_reducible refine size_set_le ?_) | (with_reducible refine size_drewN_le ?_) | go_size)))) ?_
    intro x1
    go_wp2
    go_ret
    exact ⟨rfl, by (repeat' (first | (with_reducible exact Below.refl _ _) | (with_reducible assumption) | (with_reducible refine Below.alloc ?_ ?_ _) | (with_reducible refine Below.drew ?_) | (with_reducible refine below_drewN ?_ _) | (with_reducible refine Below.setCell ?_ ?_ _) | (with_reducible refine below_after ?_ ?_ _) | (with_reducible refine below_set ?_) | (with_reducible refine After.size_le _ ?_) | (with_reducible refine size_alloc_le ?_) | (with_reducible refine size_set_le ?_) | (with_reducible refine size_drewN_le ?_) | go_size))⟩
  · go_enter Tryd.func50, Tryd.ntmps50
    go_wp2_with fail
    refine calls_after (H1.out _ (by (repeat' (first | (with_reducible exact Below.refl _ _) | (with_reducible assumption) | (with_reducible refine Below.alloc ?_ ?_ _) | (with_reducible refine Below.drew ?_) | (with_reducible refine below_drewN ?_ _) | (with_reducible refine Below.setCell ?_ ?_ _) | (with_reducible refine below_after ?_ ?_ _) | (with_reducible refine below_set ?_) | (with_reducible refine After.size_le _ ?_) | (with_reducible refine size_alloc_le ?_) | (with_reducible refine size_set_le ?_) | (with_reducible refine size_drewN_le ?_) | go_size)))) ?_
    intro x1
    go_wp2_with fail
    refine calls_after2 (H2.out _) ?_
    intro x2
    go_wp2
    go_ret
    exact ⟨rfl, by (repeat' (first | (with_reducible exact Below.refl _ _) | (with_reducible assumption) | (with_reducible refine Below.alloc ?_ ?_ _) | (with_reducible refine Below.drew ?_) | (with_reducible refine below_drewN ?_ _) | (with_reducible refine Below.setCell ?_ ?_ _) | (with_reducible refine below_after ?_ ?_ _) | (with_reducible refine below_set ?_) | (with_reducible refine After.size_le _ ?_) | (with_reducible refine size_alloc_le ?_) | (with_reducible refine size_set_le ?_) | (with_reducible refine size_drewN_le ?_) | go_size))⟩
set_option maxRecDepth 100000 in
set_option maxHeartbeats 1000000 in
theorem asked_any (s g c : Int) (a : Option Addr) (n cap : Nat) (f : Nat → Int) (w : World) (hA : IAt w a n f) (hcap : n ≤ 9223372036854775807) :
    Calls Tryd.prog 53 #[.agg #[.int .i64 s, .int .i64 g, .int .i64 c], .slice a n cap] w fun e w' => e = .returned (.int .i64 (if AskB s g c n f then 0 else 1)) ∧ Below w.heap.size w w' := by
  have H1 := Lib.hid (fun W (hW : Below w.heap.size w W) => rvalidGusts_any a n cap f W (hA.on hW) hcap)
  have H2 := Lib.hid (fun W => rvalidRule_any s g c W)
  unfold AskB
  generalize decide (GoodG n f) = p at *
  generalize decide (GoodRu s g c) = q at *
  cases q
  · cases p <;> (
      go_enter Tryd.func53, Tryd.ntmps53
      go_wp2_with fail
      refine calls_after (H2.out _) ?_
      intro x1
      go_wp2
      go_ret
      exact ⟨rfl, by (repeat' (first | (with_reducible exact Below.refl _ _) | (with_reducible assumption) | (with_reducible refine Below.alloc ?_ ?_ _) | (with_reducible refine Below.drew ?_) | (with_reducible refine below_drewN ?_ _) | (with_reducible refine Below.setCell ?_ ?_ _) | (with_reducible refine below_after ?_ ?_ _) | (with_reducible refine below_set ?_) | (with_reducible refine After.size_le _ ?_) | (with_reducible refine size_alloc_le ?_) | (with_reducible refine size_set_le ?_) | (with_reducible refine size_drewN_le ?_) | go_size))⟩)
  · cases p <;> (
      go_enter Tryd.func53, Tryd.ntmps53
      go_wp2_with fail
      refine calls_after (H2.out _) ?_
      intro x1
      go_wp2_with fail
      refine calls_after2 (H1.out _ (by (repeat' (first | (with_reducible exact Below.refl _ _) | (with_reducible assumption) | (with_reducible refine Below.alloc ?_ ?_ _) | (with_reducible refine Below.drew ?_) | (with_reducible refine below_drewN ?_ _) | (with_reducible refine Below.setCell ?_ ?_ _) | (with_reducible refine below_after ?_ ?_ _) | (with_reducible refine below_set ?_) | (with_reducible refine After.size_le _ ?_) | (with_reducible refine size_alloc_le ?_) | (with_reducible refine size_set_le ?_) | (with_reducible refine size_drewN_le ?_) | go_size)))) ?_
      intro x2
      go_wp2
      go_ret
      exact ⟨rfl, by (repeat' (first | (with_reducible exact Below.refl _ _) | (with_reducible assumption) | (with_reducible refine Below.alloc ?_ ?_ _) | (with_reducible refine Below.drew ?_) | (with_reducible refine below_drewN ?_ _) | (with_reducible refine Below.setCell ?_ ?_ _) | (with_reducible refine below_after ?_ ?_ _) | (with_reducible refine below_set ?_) | (with_reducible refine After.size_le _ ?_) | (with_reducible refine size_alloc_le ?_) | (with_reducible refine size_set_le ?_) | (with_reducible refine size_drewN_le ?_) | go_size))⟩)
end Go.Proofs.YtfmoedlnjlkiiaaDoor
