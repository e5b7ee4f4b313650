/- Loads that are valid, in both programs. -/
import Derived.Test.YtnhkkboddoiinaaLoadm
import Derived.Test.YtnhkkboddoiinaaPairs
namespace Go.Proofs.Ytnhkkboddoiinaa
open Go.RowKit
attribute [local go_sem] After.cell After.frozen After.lt After.le After.ne After.ne' After.set_eq After.size_set After.lt_add

theorem validLoad_t (n : Int) (w : World) (h : Ld n) : Calls Try.prog 64 #[.int .i64 n] w fun e w' => e = .returned (.bool true) ∧ w = w' := validLoad_any n true (by simp [h]) w
theorem validLoad_f (n : Int) (w : World) (h : ¬ Ld n) : Calls Try.prog 64 #[.int .i64 n] w fun e w' => e = .returned (.bool false) ∧ w = w' := validLoad_any n false (by simp [h]) w
theorem rload_t (n : Int) (w : World) (h : Ld n) : Calls Try.prog 67 #[.int .i64 n] w fun e w' => e = .returned (.bool true) ∧ w = w' := rload_any n true (by simp [h]) w
theorem rload_f (n : Int) (w : World) (h : ¬ Ld n) : Calls Try.prog 67 #[.int .i64 n] w fun e w' => e = .returned (.bool false) ∧ w = w' := rload_any n false (by simp [h]) w

set_option maxRecDepth 100000 in
set_option maxHeartbeats 400000 in
theorem validLoads_span (s : Int) (v : Value) (w : World) (h : ¬ Btw s 1 100000) :
    Calls Try.prog 31 #[.int .i64 s, v] w fun e w' => e = .returned (.bool false) ∧ Below w.heap.size w w' := by
  have HB := Lib.hid (fun w => between_f s 1 100000 w h)
  clear h
  go_enter Try.func31, Try.ntmps31
  go_wp2_with (go_at_call 61; refine (HB.out _).mono ?_; rintro e w1 ⟨rfl, rfl⟩)
  go_ret
  exact ⟨rfl, by (repeat' (first | (with_reducible exact Below.refl _ _) | (with_reducible assumption) | (with_reducible refine Below.alloc ?_ ?_ _) | (with_reducible refine Below.drew ?_) | (with_reducible refine below_drewN ?_ _) | (with_reducible refine Below.setCell ?_ ?_ _) | (with_reducible refine below_after ?_ ?_ _) | (with_reducible refine below_set ?_) | (with_reducible refine After.size_le _ ?_) | (with_reducible refine size_alloc_le ?_) | (with_reducible refine size_set_le ?_) | (with_reducible refine size_drewN_le ?_) | go_size))⟩
set_option maxRecDepth 100000 in
set_option maxHeartbeats 400000 in
theorem rvalidLoads_span (s : Int) (v : Value) (w : World) (h : ¬ Btw s 1 100000) :
    Calls Try.prog 32 #[.int .i64 s, v] w fun e w' => e = .returned (.bool false) ∧ Below w.heap.size w w' := by
  have HB := Lib.hid (fun w => within_f s 1 100000 w h)
  clear h
  go_enter Try.func32, Try.ntmps32
  go_wp2_with (go_at_call 63; refine (HB.out _).mono ?_; rintro e w1 ⟨rfl, rfl⟩)
  go_ret
  exact ⟨rfl, by (repeat' (first | (with_reducible exact Below.refl _ _) | (with_reducible assumption) | (with_reducible refine Below.alloc ?_ ?_ _) | (with_reducible refine Below.drew ?_) | (with_reducible refine below_drewN ?_ _) | (with_reducible refine Below.setCell ?_ ?_ _) | (with_reducible refine below_after ?_ ?_ _) | (with_reducible refine below_set ?_) | (with_reducible refine After.size_le _ ?_) | (with_reducible refine size_alloc_le ?_) | (with_reducible refine size_set_le ?_) | (with_reducible refine size_drewN_le ?_) | go_size))⟩
set_option maxRecDepth 100000 in
set_option maxHeartbeats 400000 in
theorem validLoads_long (s : Int) (a : Option Addr) (n cap : Nat) (w : World) (h : Btw s 1 100000) (hn : 20 < n) :
    Calls Try.prog 31 #[.int .i64 s, .slice a n cap] w fun e w' => e = .returned (.bool false) ∧ Below w.heap.size w w' := by
  have HB := Lib.hid (fun w => between_t s 1 100000 w h)
  have d1 : decide ((20 : Int) < (n : Int)) = true := decide_eq_true (by omega)
  clear h
  go_enter Try.func31, Try.ntmps31
  go_wp2_with (go_at_call 61; refine (HB.out _).mono ?_; rintro e w1 ⟨rfl, rfl⟩)
  go_ret
  exact ⟨rfl, by (repeat' (first | (with_reducible exact Below.refl _ _) | (with_reducible assumption) | (with_reducible refine Below.alloc ?_ ?_ _) | (with_reducible refine Below.drew ?_) | (with_reducible refine below_drewN ?_ _) | (with_reducible refine Below.setCell ?_ ?_ _) | (with_reducible refine below_after ?_ ?_ _) | (with_reducible refine below_set ?_) | (with_reducible refine After.size_le _ ?_) | (with_reducible refine size_alloc_le ?_) | (with_reducible refine size_set_le ?_) | (with_reducible refine size_drewN_le ?_) | go_size))⟩
set_option maxRecDepth 100000 in
set_option maxHeartbeats 400000 in
theorem rvalidLoads_long (s : Int) (a : Option Addr) (n cap : Nat) (w : World) (h : Btw s 1 100000) (hn : 20 < n) :
    Calls Try.prog 32 #[.int .i64 s, .slice a n cap] w fun e w' => e = .returned (.bool false) ∧ Below w.heap.size w w' := by
  have HB := Lib.hid (fun w => within_t s 1 100000 w h)
  have d1 : decide ((20 : Int) < (n : Int)) = true := decide_eq_true (by omega)
  clear h
  go_enter Try.func32, Try.ntmps32
  go_wp2_with (go_at_call 63; refine (HB.out _).mono ?_; rintro e w1 ⟨rfl, rfl⟩)
  go_ret
  exact ⟨rfl, by (repeat' (first | (with_reducible exact Below.refl _ _) | (with_reducible assumption) | (with_reducible refine Below.alloc ?_ ?_ _) | (with_reducible refine Below.drew ?_) | (with_reducible refine below_drewN ?_ _) | (with_reducible refine Below.setCell ?_ ?_ _) | (with_reducible refine below_after ?_ ?_ _) | (with_reducible refine below_set ?_) | (with_reducible refine After.size_le _ ?_) | (with_reducible refine size_alloc_le ?_) | (with_reducible refine size_set_le ?_) | (with_reducible refine size_drewN_le ?_) | go_size))⟩
set_option maxRecDepth 100000 in
set_option maxHeartbeats 400000 in
theorem validLoads_empty (s : Int) (a : Option Addr) (cap : Nat) (w : World) (h : Btw s 1 100000) :
    Calls Try.prog 31 #[.int .i64 s, .slice a 0 cap] w fun e w' => e = .returned (.bool true) ∧ Below w.heap.size w w' := by
  have HB := Lib.hid (fun w => between_t s 1 100000 w h)
  clear h
  go_enter Try.func31, Try.ntmps31
  go_wp2_with (go_at_call 61; refine (HB.out _).mono ?_; rintro e w1 ⟨rfl, rfl⟩)
  go_loopw [6, 17] (fun u i wr => i = .int .i64 0 ∧ wr = w) (fun _ _ _ => 0)
  case atStart => exact ⟨rfl, rfl⟩
  case round =>
    obtain ⟨rfl, rfl⟩ := hrel
    go_wp2
    go_ret
    exact ⟨rfl, by (repeat' (first | (with_reducible exact Below.refl _ _) | (with_reducible assumption) | (with_reducible refine Below.alloc ?_ ?_ _) | (with_reducible refine Below.drew ?_) | (with_reducible refine below_drewN ?_ _) | (with_reducible refine Below.setCell ?_ ?_ _) | (with_reducible refine below_after ?_ ?_ _) | (with_reducible refine below_set ?_) | (with_reducible refine After.size_le _ ?_) | (with_reducible refine size_alloc_le ?_) | (with_reducible refine size_set_le ?_) | (with_reducible refine size_drewN_le ?_) | go_size))⟩
set_option maxRecDepth 100000 in
set_option maxHeartbeats 400000 in
theorem rvalidLoads_empty (s : Int) (a : Option Addr) (cap : Nat) (w : World) (h : Btw s 1 100000) :
    Calls Try.prog 32 #[.int .i64 s, .slice a 0 cap] w fun e w' => e = .returned (.bool true) ∧ Below w.heap.size w w' := by
  have HB := Lib.hid (fun w => within_t s 1 100000 w h)
  clear h
  go_enter Try.func32, Try.ntmps32
  go_wp2_with (go_at_call 63; refine (HB.out _).mono ?_; rintro e w1 ⟨rfl, rfl⟩)
  go_loopw [5] (fun i wr => i = .int .i64 0 ∧ wr = w) (fun _ _ => 0)
  case atStart => exact ⟨rfl, rfl⟩
  case round =>
    obtain ⟨rfl, rfl⟩ := hrel
    go_wp2
    go_ret
    exact ⟨rfl, by (repeat' (first | (with_reducible exact Below.refl _ _) | (with_reducible assumption) | (with_reducible refine Below.alloc ?_ ?_ _) | (with_reducible refine Below.drew ?_) | (with_reducible refine below_drewN ?_ _) | (with_reducible refine Below.setCell ?_ ?_ _) | (with_reducible refine below_after ?_ ?_ _) | (with_reducible refine below_set ?_) | (with_reducible refine After.size_le _ ?_) | (with_reducible refine size_alloc_le ?_) | (with_reducible refine size_set_le ?_) | (with_reducible refine size_drewN_le ?_) | go_size))⟩

set_option maxRecDepth 100000 in
set_option maxHeartbeats 1000000 in
theorem validLoads_row (s : Int) (b off cap : Nat) (ps : List (Int × Int)) (w : World) (hb : b < w.heap.size) (hs : Btw s 1 100000) (hl : ps.length ≤ 20) (hc : PrCells w b off ps) :
    Calls Try.prog 31 #[.int .i64 s, .slice (some ⟨b, off, none⟩) ps.length cap] w fun e w' => e = .returned (.bool (decide (GoodL s ps))) ∧ Below w.heap.size w w' := by
  have HB := Lib.hid (fun w => between_t s 1 100000 w hs)
  have HC := Lib.hid hc
  have HS := Lib.hid hs
  have HI : Hid (∀ n : Int, ∀ W, Calls Try.prog 61 #[.int .i64 n, .int .i64 0, .int .i64 s] W fun e w' => e = .returned (.bool (decide (Btw n 0 s))) ∧ W = w') := fun n W => between_any n 0 s W
  have d1 : decide ((20 : Int) < (ps.length : Int)) = false := decide_eq_false (by omega)
  clear hc hs
  go_enter Try.func31, Try.ntmps31
  go_wp2_with (go_at_call 61; refine (HB.out _).mono ?_; rintro e w1 ⟨rfl, rfl⟩)
  go_loopw [6, 17] (fun u i wr => ∃ k : Nat, k ≤ ps.length ∧ i = .int .i64 k ∧ (∀ j, j < k → OkL s (ldAt ps j)) ∧ ∃ x : After w, wr = x.w) (fun _ i _ => ps.length - (intOf i).toNat)
  case atStart => exact ⟨0, by omega, rfl, fun j hj => absurd hj (by omega), ⟨w, Below.refl _ _⟩, rfl⟩
  case round =>
    obtain ⟨k, hk, rfl, ho, x, rfl⟩ := hrel
    have hbx := x.size_lt hb
    have HO := Lib.hid ho
    clear ho
    by_cases hlt : k < ps.length
    · obtain ⟨c1, c2⟩ := HC.out k hlt
      have HK : Hid (OkL s (ldAt ps k) ↔ Btw (ps.getD k (0, 0)).1 0 s ∧ Ld (ps.getD k (0, 0)).2) := Iff.rfl
      generalize ps.getD k (0, 0) = p at *
      obtain ⟨h, v⟩ := p
      dsimp only at c1 c2 HK
      by_cases h1 : Btw h 0 s
      · have H1 := Lib.hid (fun W => between_t h 0 s W h1)
        have G1 := Lib.hid h1
        clear h1
        by_cases h2 : Ld v
        · have H2 := Lib.hid (fun W => validLoad_t v W h2)
          have G2 := Lib.hid h2
          clear h2
          go_wp2_with (first | (go_at_call 61; refine (H1.out _).mono ?_; rintro e w1 ⟨rfl, rfl⟩) | (go_at_call 64; refine (H2.out _).mono ?_; rintro e w1 ⟨rfl, rfl⟩))
          go_roundw
          case rel => exact ⟨k + 1, by omega, by go_num, fun j hj => by
            rcases Nat.lt_or_ge j k with hj' | hj'
            · exact HO.out j hj'
            · obtain rfl : j = k := by omega
              exact HK.out.2 ⟨G1.out, G2.out⟩, ⟨_, x.out.alloc x.out.size _⟩, rfl⟩
          case measure => simp [intOf]; omega
        · have H2 := Lib.hid (fun W => validLoad_f v W h2)
          have G2 := Lib.hid h2
          clear h2
          go_wp2_with (first | (go_at_call 61; refine (H1.out _).mono ?_; rintro e w1 ⟨rfl, rfl⟩) | (go_at_call 64; refine (H2.out _).mono ?_; rintro e w1 ⟨rfl, rfl⟩))
          go_ret
          exact ⟨ret_dec (by simp; exact fun hG => G2.out (HK.out.1 (hG.2.2 k hlt)).2), by (repeat' (first | (with_reducible exact Below.refl _ _) | (with_reducible assumption) | (with_reducible refine Below.alloc ?_ ?_ _) | (with_reducible refine Below.drew ?_) | (with_reducible refine below_drewN ?_ _) | (with_reducible refine Below.setCell ?_ ?_ _) | (with_reducible refine below_after ?_ ?_ _) | (with_reducible refine below_set ?_) | (with_reducible refine After.size_le _ ?_) | (with_reducible refine size_alloc_le ?_) | (with_reducible refine size_set_le ?_) | (with_reducible refine size_drewN_le ?_) | go_size))⟩
      · have H1 := Lib.hid (fun W => between_f h 0 s W h1)
        have G1 := Lib.hid h1
        clear h1
        go_wp2_with (first | (go_at_call 61; refine (H1.out _).mono ?_; rintro e w1 ⟨rfl, rfl⟩))
        go_ret
        exact ⟨ret_dec (by simp; exact fun hG => G1.out (HK.out.1 (hG.2.2 k hlt)).1), by (repeat' (first | (with_reducible exact Below.refl _ _) | (with_reducible assumption) | (with_reducible refine Below.alloc ?_ ?_ _) | (with_reducible refine Below.drew ?_) | (with_reducible refine below_drewN ?_ _) | (with_reducible refine Below.setCell ?_ ?_ _) | (with_reducible refine below_after ?_ ?_ _) | (with_reducible refine below_set ?_) | (with_reducible refine After.size_le _ ?_) | (with_reducible refine size_alloc_le ?_) | (with_reducible refine size_set_le ?_) | (with_reducible refine size_drewN_le ?_) | go_size))⟩
    · go_wp2
      go_ret
      exact ⟨ret_dec ⟨fun _ => ⟨HS.out, hl, fun j hj => HO.out j (by omega)⟩, fun _ => rfl⟩, by (repeat' (first | (with_reducible exact Below.refl _ _) | (with_reducible assumption) | (with_reducible refine Below.alloc ?_ ?_ _) | (with_reducible refine Below.drew ?_) | (with_reducible refine below_drewN ?_ _) | (with_reducible refine Below.setCell ?_ ?_ _) | (with_reducible refine below_after ?_ ?_ _) | (with_reducible refine below_set ?_) | (with_reducible refine After.size_le _ ?_) | (with_reducible refine size_alloc_le ?_) | (with_reducible refine size_set_le ?_) | (with_reducible refine size_drewN_le ?_) | go_size))⟩

set_option maxRecDepth 100000 in
set_option maxHeartbeats 1000000 in
theorem rvalidLoads_row (s : Int) (b off cap : Nat) (ps : List (Int × Int)) (w : World) (hb : b < w.heap.size) (hs : Btw s 1 100000) (hl : ps.length ≤ 20) (hc : PrCells w b off ps) :
    Calls Try.prog 32 #[.int .i64 s, .slice (some ⟨b, off, none⟩) ps.length cap] w fun e w' => e = .returned (.bool (decide (GoodL s ps))) ∧ Below w.heap.size w w' := by
  have HB := Lib.hid (fun w => within_t s 1 100000 w hs)
  have HC := Lib.hid hc
  have HS := Lib.hid hs
  have d1 : decide ((20 : Int) < (ps.length : Int)) = false := decide_eq_false (by omega)
  clear hc hs
  go_enter Try.func32, Try.ntmps32
  go_wp2_with (go_at_call 63; refine (HB.out _).mono ?_; rintro e w1 ⟨rfl, rfl⟩)
  go_loopw [5] (fun i wr => ∃ k : Nat, k ≤ ps.length ∧ i = .int .i64 k ∧ (∀ j, j < k → OkL s (ldAt ps j)) ∧ wr = w) (fun i _ => ps.length - (intOf i).toNat)
  case atStart => exact ⟨0, by omega, rfl, fun j hj => absurd hj (by omega), rfl⟩
  case round =>
    obtain ⟨k, hk, rfl, ho, rfl⟩ := hrel
    have HO := Lib.hid ho
    clear ho
    by_cases hlt : k < ps.length
    · obtain ⟨c1, c2⟩ := HC.out k hlt
      have HK : Hid (OkL s (ldAt ps k) ↔ Btw (ps.getD k (0, 0)).1 0 s ∧ Ld (ps.getD k (0, 0)).2) := Iff.rfl
      generalize ps.getD k (0, 0) = p at *
      obtain ⟨h, v⟩ := p
      dsimp only at c1 c2 HK
      by_cases h1 : Btw h 0 s
      · have H1 := Lib.hid (fun W => within_t h 0 s W h1)
        have G1 := Lib.hid h1
        clear h1
        by_cases h2 : Ld v
        · have H2 := Lib.hid (fun W => rload_t v W h2)
          have G2 := Lib.hid h2
          clear h2
          go_wp2_with (first | (go_at_call 63; refine (H1.out _).mono ?_; rintro e w1 ⟨rfl, rfl⟩) | (go_at_call 67; refine (H2.out _).mono ?_; rintro e w1 ⟨rfl, rfl⟩))
          go_roundw
          case rel => exact ⟨k + 1, by omega, by go_num, fun j hj => by
            rcases Nat.lt_or_ge j k with hj' | hj'
            · exact HO.out j hj'
            · obtain rfl : j = k := by omega
              exact HK.out.2 ⟨G1.out, G2.out⟩, by first | rfl | trivial⟩
          case measure => simp [intOf]; omega
        · have H2 := Lib.hid (fun W => rload_f v W h2)
          have G2 := Lib.hid h2
          clear h2
          go_wp2_with (first | (go_at_call 63; refine (H1.out _).mono ?_; rintro e w1 ⟨rfl, rfl⟩) | (go_at_call 67; refine (H2.out _).mono ?_; rintro e w1 ⟨rfl, rfl⟩))
          go_ret
          exact ⟨ret_dec (by simp; exact fun hG => G2.out (HK.out.1 (hG.2.2 k hlt)).2), by (repeat' (first | (with_reducible exact Below.refl _ _) | (with_reducible assumption) | (with_reducible refine Below.alloc ?_ ?_ _) | (with_reducible refine Below.drew ?_) | (with_reducible refine below_drewN ?_ _) | (with_reducible refine Below.setCell ?_ ?_ _) | (with_reducible refine below_after ?_ ?_ _) | (with_reducible refine below_set ?_) | (with_reducible refine After.size_le _ ?_) | (with_reducible refine size_alloc_le ?_) | (with_reducible refine size_set_le ?_) | (with_reducible refine size_drewN_le ?_) | go_size))⟩
      · have H1 := Lib.hid (fun W => within_f h 0 s W h1)
        have G1 := Lib.hid h1
        clear h1
        go_wp2_with (first | (go_at_call 63; refine (H1.out _).mono ?_; rintro e w1 ⟨rfl, rfl⟩))
        go_ret
        exact ⟨ret_dec (by simp; exact fun hG => G1.out (HK.out.1 (hG.2.2 k hlt)).1), by (repeat' (first | (with_reducible exact Below.refl _ _) | (with_reducible assumption) | (with_reducible refine Below.alloc ?_ ?_ _) | (with_reducible refine Below.drew ?_) | (with_reducible refine below_drewN ?_ _) | (with_reducible refine Below.setCell ?_ ?_ _) | (with_reducible refine below_after ?_ ?_ _) | (with_reducible refine below_set ?_) | (with_reducible refine After.size_le _ ?_) | (with_reducible refine size_alloc_le ?_) | (with_reducible refine size_set_le ?_) | (with_reducible refine size_drewN_le ?_) | go_size))⟩
    · go_wp2
      go_ret
      exact ⟨ret_dec ⟨fun _ => ⟨HS.out, hl, fun j hj => HO.out j (by omega)⟩, fun _ => rfl⟩, by (repeat' (first | (with_reducible exact Below.refl _ _) | (with_reducible assumption) | (with_reducible refine Below.alloc ?_ ?_ _) | (with_reducible refine Below.drew ?_) | (with_reducible refine below_drewN ?_ _) | (with_reducible refine Below.setCell ?_ ?_ _) | (with_reducible refine below_after ?_ ?_ _) | (with_reducible refine below_set ?_) | (with_reducible refine After.size_le _ ?_) | (with_reducible refine size_alloc_le ?_) | (with_reducible refine size_set_le ?_) | (with_reducible refine size_drewN_le ?_) | go_size))⟩

theorem validLoads_v (s : Int) (v : Value) (ps : List (Int × Int)) (w : World) (h : Prs w w.heap.size v ps) :
    Calls Try.prog 31 #[.int .i64 s, v] w fun e w' => e = .returned (.bool (decide (GoodL s ps))) ∧ Below w.heap.size w w' := by
  by_cases hs : Btw s 1 100000
  · rcases h with ⟨a, cap, rfl, rfl⟩ | ⟨b, off, cap, rfl, hb, _, hc⟩
    · rw [show decide (GoodL s []) = true by simp [goodL_nil, hs]]
      exact validLoads_empty s a cap w hs
    · by_cases hl : ps.length ≤ 20
      · exact validLoads_row s b off cap ps w hb hs hl hc
      · rw [show decide (GoodL s ps) = false by simp; exact fun h => hl h.2.1]
        exact validLoads_long s _ _ cap w hs (by omega)
  · rw [show decide (GoodL s ps) = false by simp; exact fun h => hs h.1]
    exact validLoads_span s v w hs
theorem rvalidLoads_v (s : Int) (v : Value) (ps : List (Int × Int)) (w : World) (h : Prs w w.heap.size v ps) :
    Calls Try.prog 32 #[.int .i64 s, v] w fun e w' => e = .returned (.bool (decide (GoodL s ps))) ∧ Below w.heap.size w w' := by
  by_cases hs : Btw s 1 100000
  · rcases h with ⟨a, cap, rfl, rfl⟩ | ⟨b, off, cap, rfl, hb, _, hc⟩
    · rw [show decide (GoodL s []) = true by simp [goodL_nil, hs]]
      exact rvalidLoads_empty s a cap w hs
    · by_cases hl : ps.length ≤ 20
      · exact rvalidLoads_row s b off cap ps w hb hs hl hc
      · rw [show decide (GoodL s ps) = false by simp; exact fun h => hl h.2.1]
        exact rvalidLoads_long s _ _ cap w hs (by omega)
  · rw [show decide (GoodL s ps) = false by simp; exact fun h => hs h.1]
    exact rvalidLoads_span s v w hs
theorem validLoads_b (s : Int) (v : Value) (ps : List (Int × Int)) (w : World) (t : Bool) (ht : decide (GoodL s ps) = t) (h : Prs w w.heap.size v ps) :
    Calls Try.prog 31 #[.int .i64 s, v] w fun e w' => e = .returned (.bool t) ∧ Below w.heap.size w w' := by subst ht; exact validLoads_v s v ps w h
theorem rvalidLoads_b (s : Int) (v : Value) (ps : List (Int × Int)) (w : World) (t : Bool) (ht : decide (GoodL s ps) = t) (h : Prs w w.heap.size v ps) :
    Calls Try.prog 32 #[.int .i64 s, v] w fun e w' => e = .returned (.bool t) ∧ Below w.heap.size w w' := by subst ht; exact rvalidLoads_v s v ps w h
end Go.Proofs.Ytnhkkboddoiinaa
