/- LeanMoves: the law's walk. -/
import Derived.Test.YtdhobjflfhijjaaMovedc
import Derived.Test.YtdhobjflfhijjaaMkArg
import Derived.Test.YtdhobjflfhijjaaNearest
namespace Go.Proofs.Ytdhobjflfhijjaa
open Go.RowKit
attribute [local go_sem] After.cell After.frozen After.lt After.le After.ne After.ne' After.set_eq After.size_set After.lt_add

set_option maxHeartbeats 400000 in
theorem sameInts_nil (a a' : Option Addr) (c c' : Nat) (w : World) :
    Calls Try.prog 54 #[.slice a 0 c, .slice a' 0 c'] w fun e w' => e = .returned (.bool true) ∧ Below w.heap.size w w' := by
  go_enter Try.func54, Try.ntmps54
  go_wp2
  go_loopw [5] (fun i wr => i = .int .i64 0 ∧ ∃ x : After w, wr = x.w) (fun _ _ => 0)
  case atStart => exact ⟨rfl, ⟨w, Below.refl _ _⟩, rfl⟩
  case round =>
    obtain ⟨rfl, x, rfl⟩ := hrel
    go_wp2
    go_ret
    exact ⟨rfl, by (repeat' (first | (with_reducible exact Below.refl _ _) | (with_reducible assumption) | (with_reducible refine Below.alloc ?_ ?_ _) | (with_reducible refine Below.drew ?_) | (with_reducible refine below_drewN ?_ _) | (with_reducible refine Below.setCell ?_ ?_ _) | (with_reducible refine below_after ?_ ?_ _) | (with_reducible refine below_set ?_) | (with_reducible refine After.size_le _ ?_) | (with_reducible refine size_alloc_le ?_) | (with_reducible refine size_set_le ?_) | (with_reducible refine size_drewN_le ?_) | go_size))⟩
set_option maxHeartbeats 1000000 in
theorem sameInts_row (b off b' off' n c c' : Nat) (f : Nat → Int) (w : World) (hb : b < w.heap.size) (hb' : b' < w.heap.size) (hn : n ≤ 1000)
    (hc : ∀ i, i < n → w.cell? ⟨b, off + i, none⟩ = some (.int .i64 (f i))) (hc' : ∀ i, i < n → w.cell? ⟨b', off' + i, none⟩ = some (.int .i64 (f i))) :
    Calls Try.prog 54 #[.slice (some ⟨b, off, none⟩) n c, .slice (some ⟨b', off', none⟩) n c'] w fun e w' => e = .returned (.bool true) ∧ Below w.heap.size w w' := by
  have HC := Lib.hid hc
  have HC' := Lib.hid hc'
  clear hc hc'
  go_enter Try.func54, Try.ntmps54
  go_wp2
  go_loopw [5] (fun i wr => ∃ k : Nat, k ≤ n ∧ i = .int .i64 k ∧ ∃ x : After w, wr = x.w) (fun i _ => n - (intOf i).toNat)
  case atStart => exact ⟨0, by omega, rfl, ⟨w, Below.refl _ _⟩, rfl⟩
  case round =>
    obtain ⟨k, hk, rfl, x, rfl⟩ := hrel
    by_cases hlt : k < n
    · have c1 := HC.out k hlt
      have c2 := HC'.out k hlt
      go_wp2
      refine wp_region_after (by kernel_rfl) (by kernel_rfl) ?_; (repeat (first | go_big_quiet_step ((fail)) | (refine wpQuiet_step (fun K hK => ?_); go_simp; first | (refine hK _ ?_; clear hK K) | (apply Exists.intro; refine ⟨fun x => ?_, hK _ ?_⟩; (fail); clear hK K)))); refine wpQuiet_nil ?_
      intro y
      go_wp2
      go_roundw
      case rel => exact ⟨k + 1, by omega, by go_num, ⟨_, x.out.trans (y.out.mono x.out.size)⟩, rfl⟩
      case measure => simp [intOf]; omega
    · obtain rfl : n = k := by omega
      go_wp2
      go_ret
      exact ⟨rfl, by (repeat' (first | (with_reducible exact Below.refl _ _) | (with_reducible assumption) | (with_reducible refine Below.alloc ?_ ?_ _) | (with_reducible refine Below.drew ?_) | (with_reducible refine below_drewN ?_ _) | (with_reducible refine Below.setCell ?_ ?_ _) | (with_reducible refine below_after ?_ ?_ _) | (with_reducible refine below_set ?_) | (with_reducible refine After.size_le _ ?_) | (with_reducible refine size_alloc_le ?_) | (with_reducible refine size_set_le ?_) | (with_reducible refine size_drewN_le ?_) | go_size))⟩

set_option maxRecDepth 100000 in
set_option maxHeartbeats 1000000 in
theorem leanMoves_long1 (aa ab : Option Addr) (na nb ca cb : Nat) (y : Int) (w : World) (hn : 100 < na) :
    Calls Try.prog 13 #[.slice aa na ca, .slice ab nb cb, .int .i64 y] w fun e w' => e = .returned (.bool true) ∧ Below w.heap.size w w' := by
  go_enter Try.func13, Try.ntmps13
  (go_wp2_with fail); refine calls_after (awake_any _) ?_; intro x1
  go_wp2
  go_ret
  exact ⟨rfl, by (repeat' (first | (with_reducible exact Below.refl _ _) | (with_reducible assumption) | (with_reducible refine Below.alloc ?_ ?_ _) | (with_reducible refine Below.drew ?_) | (with_reducible refine below_drewN ?_ _) | (with_reducible refine Below.setCell ?_ ?_ _) | (with_reducible refine below_after ?_ ?_ _) | (with_reducible refine below_set ?_) | (with_reducible refine After.size_le _ ?_) | (with_reducible refine size_alloc_le ?_) | (with_reducible refine size_set_le ?_) | (with_reducible refine size_drewN_le ?_) | go_size))⟩
set_option maxRecDepth 100000 in
set_option maxHeartbeats 1000000 in
theorem leanMoves_long2 (aa ab : Option Addr) (na nb ca cb : Nat) (y : Int) (w : World) (hn : na ≤ 100) (hn2 : 100 < nb) :
    Calls Try.prog 13 #[.slice aa na ca, .slice ab nb cb, .int .i64 y] w fun e w' => e = .returned (.bool true) ∧ Below w.heap.size w w' := by
  have d : decide (100 < (na : Int)) = false := by simp; omega
  go_enter Try.func13, Try.ntmps13
  (go_wp2_with fail); refine calls_after (awake_any _) ?_; intro x1
  go_wp2
  go_ret
  exact ⟨rfl, by (repeat' (first | (with_reducible exact Below.refl _ _) | (with_reducible assumption) | (with_reducible refine Below.alloc ?_ ?_ _) | (with_reducible refine Below.drew ?_) | (with_reducible refine below_drewN ?_ _) | (with_reducible refine Below.setCell ?_ ?_ _) | (with_reducible refine below_after ?_ ?_ _) | (with_reducible refine below_set ?_) | (with_reducible refine After.size_le _ ?_) | (with_reducible refine size_alloc_le ?_) | (with_reducible refine size_set_le ?_) | (with_reducible refine size_drewN_le ?_) | go_size))⟩
set_option maxRecDepth 100000 in
set_option maxHeartbeats 1000000 in
theorem leanMoves_err (aa ab : Option Addr) (na nb ca cb : Nat) (y e : Int) (w : World) (hn : na ≤ 100) (hn2 : nb ≤ 100)
    (HA : Hid (∀ W, Below w.heap.size w W → Calls Try.prog 52 #[.slice aa na ca, .slice ab nb cb, .int .i64 y] W fun x w' => x = .returned (.tuple #[.slice none 0 0, .int .i64 e]) ∧ Below W.heap.size W w'))
    (HB : Hid (∀ W, Below w.heap.size w W → Calls Try.prog 53 #[.slice aa na ca, .slice ab nb cb, .int .i64 y] W fun x w' => x = .returned (.tuple #[.slice none 0 0, .int .i64 e]) ∧ Below W.heap.size W w')) :
    Calls Try.prog 13 #[.slice aa na ca, .slice ab nb cb, .int .i64 y] w fun e w' => e = .returned (.bool true) ∧ Below w.heap.size w w' := by
  have d : decide (100 < (na : Int)) = false := by simp; omega
  have d2 : decide (100 < (nb : Int)) = false := by simp; omega
  go_enter Try.func13, Try.ntmps13
  (go_wp2_with fail); refine calls_after (HA.out _ (by (repeat' (first | (with_reducible exact Below.refl _ _) | (with_reducible assumption) | (with_reducible refine Below.alloc ?_ ?_ _) | (with_reducible refine Below.drew ?_) | (with_reducible refine below_drewN ?_ _) | (with_reducible refine Below.setCell ?_ ?_ _) | (with_reducible refine below_after ?_ ?_ _) | (with_reducible refine below_set ?_) | (with_reducible refine After.size_le _ ?_) | (with_reducible refine size_alloc_le ?_) | (with_reducible refine size_set_le ?_) | (with_reducible refine size_drewN_le ?_) | go_size)))) ?_; intro x1
  (go_wp2_with fail); refine calls_after2 (HB.out _ (by (repeat' (first | (with_reducible exact Below.refl _ _) | (with_reducible assumption) | (with_reducible refine Below.alloc ?_ ?_ _) | (with_reducible refine Below.drew ?_) | (with_reducible refine below_drewN ?_ _) | (with_reducible refine Below.setCell ?_ ?_ _) | (with_reducible refine below_after ?_ ?_ _) | (with_reducible refine below_set ?_) | (with_reducible refine After.size_le _ ?_) | (with_reducible refine size_alloc_le ?_) | (with_reducible refine size_set_le ?_) | (with_reducible refine size_drewN_le ?_) | go_size)))) ?_; intro x2
  (go_wp2_with fail); refine calls_after2 (sameInts_nil _ _ _ _ _) ?_; intro x3
  (go_wp2_with fail); refine calls_after2 (awake_any _) ?_; intro x4
  go_wp2
  go_ret
  exact ⟨rfl, by (repeat' (first | (with_reducible exact Below.refl _ _) | (with_reducible assumption) | (with_reducible refine Below.alloc ?_ ?_ _) | (with_reducible refine Below.drew ?_) | (with_reducible refine below_drewN ?_ _) | (with_reducible refine Below.setCell ?_ ?_ _) | (with_reducible refine below_after ?_ ?_ _) | (with_reducible refine below_set ?_) | (with_reducible refine After.size_le _ ?_) | (with_reducible refine size_alloc_le ?_) | (with_reducible refine size_set_le ?_) | (with_reducible refine size_drewN_le ?_) | go_size))⟩
set_option maxRecDepth 100000 in
set_option maxHeartbeats 1000000 in
theorem leanMoves_ok (aa ab : Option Addr) (na nb ca cb : Nat) (y : Int) (L : List Nat) (w : World) (hn : na ≤ 100) (hn2 : nb ≤ 100) (hL : L.length ≤ 100)
    (HA : Hid (∀ W, Below w.heap.size w W → Calls Try.prog 52 #[.slice aa na ca, .slice ab nb cb, .int .i64 y] W fun e w' => ∃ v, e = .returned (.tuple #[v, .int .i64 0]) ∧ w'.ownsRow W.heap.size 3 1 v L.length (ixC L) ∧ Below W.heap.size W w'))
    (HB : Hid (∀ W, Below w.heap.size w W → Calls Try.prog 53 #[.slice aa na ca, .slice ab nb cb, .int .i64 y] W fun e w' => ∃ v, e = .returned (.tuple #[v, .int .i64 0]) ∧ w'.ownsRow W.heap.size 3 1 v L.length (ixC L) ∧ Below W.heap.size W w')) :
    Calls Try.prog 13 #[.slice aa na ca, .slice ab nb cb, .int .i64 y] w fun e w' => e = .returned (.bool true) ∧ Below w.heap.size w w' := by
  have d : decide (100 < (na : Int)) = false := by simp; omega
  have d2 : decide (100 < (nb : Int)) = false := by simp; omega
  go_enter Try.func13, Try.ntmps13
  go_wp2_with fail
  refine (HA.out _ (Below.refl _ _)).mono ?_
  rintro e w1 ⟨v, rfl, hr1, hb1⟩
  have HR1 := Lib.hid hr1
  clear hr1
  go_wp2_with fail
  refine (HB.out _ hb1).mono ?_
  rintro e w2 ⟨v', rfl, hr2, hb2⟩
  have hr1 := owns_below HR1.out hb2
  have hB := hb1.trans (hb2.mono hb1.size)
  have S : ∀ W, W = w2 → Calls Try.prog 54 #[v, v'] W fun e w' => e = .returned (.bool true) ∧ Below W.heap.size W w' := by
    rintro W rfl
    by_cases h0 : L.length = 0
    · rw [h0] at hr1 hr2
      rcases Go.Joins.ownsRow_forms hr1 with ⟨rfl, _⟩ | ⟨g, c, rfl⟩ <;> rcases Go.Joins.ownsRow_forms hr2 with ⟨rfl, _⟩ | ⟨g', c', rfl⟩ <;> exact sameInts_nil _ _ _ _ _
    · obtain ⟨g, c, rfl⟩ := Go.Joins.ownsRow_form hr1 (by omega)
      obtain ⟨g', c', rfl⟩ := Go.Joins.ownsRow_form hr2 (by omega)
      refine sameInts_row g 0 g' 0 L.length c c' (fun i => ((L.getD i 0 : Nat) : Int)) W (hr1.lt g rfl).2 (hr2.lt g' rfl).2 (by omega) (fun i hi => ?_) (fun i hi => ?_)
      · rw [Nat.zero_add, hr1.cellAt _ (by omega)]
        simp [ixC, hi]
      · rw [Nat.zero_add, hr2.cellAt _ (by omega)]
        simp [ixC, hi]
  have HS := Lib.hid (S _ rfl)
  clear S hr1 hr2 HR1 HA HB
  have hz := hB.size
  clear hb1 hb2
  (go_wp2_with fail); refine calls_after (HS.out) ?_; intro x3
  (go_wp2_with fail); refine calls_after2 (awake_any _) ?_; intro x4
  go_wp2
  go_ret
  exact ⟨rfl, by (repeat' (first | (with_reducible exact Below.refl _ _) | (with_reducible assumption) | (with_reducible refine Below.alloc ?_ ?_ _) | (with_reducible refine Below.drew ?_) | (with_reducible refine below_drewN ?_ _) | (with_reducible refine Below.setCell ?_ ?_ _) | (with_reducible refine below_after ?_ ?_ _) | (with_reducible refine below_set ?_) | (with_reducible refine After.size_le _ ?_) | (with_reducible refine size_alloc_le ?_) | (with_reducible refine size_set_le ?_) | (with_reducible refine size_drewN_le ?_) | go_size))⟩

theorem leanMoves_any (va vb : Value) (y : Int) (na nb : Nat) (f g : Nat → Nat → Int) (w : World) (ha : Mks w va na f) (hb : Mks w vb nb g) :
    Calls Try.prog 13 #[va, vb, .int .i64 y] w fun e w' => e = .returned (.bool true) ∧ Below w.heap.size w w' := by
  by_cases la : na ≤ 100
  · by_cases lb : nb ≤ 100
    · have sa := say_mks ha la
      have sb := say_mks hb lb
      have ra := rsay_mks ha la
      have rb := rsay_mks hb lb
      have on : ∀ {W : World} {v : Value} {c}, Below w.heap.size w W → MSay w v c → MSay W v c := fun hW hs W' hW' => hs W' (hW.trans (hW'.mono hW.size))
      have ron : ∀ {W : World} {v : Value} {c}, Below w.heap.size w W → RMSay w v c → RMSay W v c := fun hW hs W' hW' => hs W' (hW.trans (hW'.mono hW.size))
      obtain ⟨aa, ca, ea⟩ := mks_slice ha
      obtain ⟨ab, cb, eb⟩ := mks_slice hb
      by_cases hA : GoodM na f
      · by_cases hB : GoodM nb g
        · rw [decide_eq_true hA] at sa ra
          rw [decide_eq_true hB] at sb rb
          by_cases hy : ByOk y
          · by_cases hn : na = nb
            · subst hn
              obtain ⟨p, off, cap, rfl, hp, hc⟩ := mks_good ha hA
              obtain ⟨p', off', cap', rfl, hp', hc'⟩ := mks_good hb hB
              by_cases hE : hEq na f g
              · exact leanMoves_ok _ _ _ _ _ _ y (mvL f g y na) w la lb (Nat.le_trans (mvL_le f g y na) la)
                  (Lib.hid fun W hW => moved_ok p off cap p' off' cap' na f g y W (Nat.lt_of_lt_of_le hp hW.size) (Nat.lt_of_lt_of_le hp' hW.size) hA.2.1 (hc.on hp hW) (hc'.on hp' hW) (fun k hk => (hA.2.2 k hk).1) (fun k hk => (hB.2.2 k hk).1) (on hW sa) (on hW sb) hy hE)
                  (Lib.hid fun W hW => rmoved_ok p off cap p' off' cap' na f g y W (Nat.lt_of_lt_of_le hp hW.size) (Nat.lt_of_lt_of_le hp' hW.size) hA.2.1 (hc.on hp hW) (hc'.on hp' hW) (ron hW ra) (ron hW rb) hy (fun k hk => (hA.2.2 k hk).1) (fun k hk => (hB.2.2 k hk).1) hE)
              · exact leanMoves_err _ _ _ _ _ _ y 10 w la lb
                  (Lib.hid fun W hW => moved_state p off cap p' off' cap' na f g y W (Nat.lt_of_lt_of_le hp hW.size) (Nat.lt_of_lt_of_le hp' hW.size) hA.2.1 (hc.on hp hW) (hc'.on hp' hW) (on hW sa) (on hW sb) hy hE)
                  (Lib.hid fun W hW => rmoved_state p off cap p' off' cap' na f g y W (Nat.lt_of_lt_of_le hp hW.size) (Nat.lt_of_lt_of_le hp' hW.size) hA.2.1 (hc.on hp hW) (hc'.on hp' hW) (ron hW ra) (ron hW rb) hy hE)
            · subst ea eb
              exact leanMoves_err _ _ _ _ _ _ y 9 w la lb (Lib.hid fun W hW => moved_size _ _ _ _ _ _ y W (on hW sa) (on hW sb) hy hn) (Lib.hid fun W hW => rmoved_size _ _ _ _ _ _ y W (ron hW ra) (ron hW rb) hy hn)
          · subst ea eb
            exact leanMoves_err _ _ _ _ _ _ y 7 w la lb (Lib.hid fun W hW => moved_by _ _ y W (on hW sa) (on hW sb) hy) (Lib.hid fun W hW => rmoved_by _ _ y W (ron hW ra) (ron hW rb) hy)
        · rw [decide_eq_true hA] at sa ra
          rw [decide_eq_false hB] at sb rb
          subst ea eb
          exact leanMoves_err _ _ _ _ _ _ y 1 w la lb (Lib.hid fun W hW => moved_inv2 _ _ y W (on hW sa) (on hW sb)) (Lib.hid fun W hW => rmoved_inv2 _ _ y W (ron hW ra) (ron hW rb))
      · rw [decide_eq_false hA] at sa ra
        subst ea eb
        exact leanMoves_err _ _ _ _ _ _ y 1 w la lb (Lib.hid fun W hW => moved_inv1 _ _ y W (on hW sa)) (Lib.hid fun W hW => rmoved_inv1 _ _ y W (ron hW ra))
    · obtain ⟨aa, ca, rfl⟩ := mks_slice ha
      obtain ⟨ab, cb, rfl⟩ := mks_slice hb
      exact leanMoves_long2 _ _ _ _ _ _ y w la (by omega)
  · obtain ⟨aa, ca, rfl⟩ := mks_slice ha
    obtain ⟨ab, cb, rfl⟩ := mks_slice hb
    exact leanMoves_long1 _ _ _ _ _ _ y w (by omega)
end Go.Proofs.Ytdhobjflfhijjaa
