/- Proves in the reference; bad. -/
import Derived.Test.YtbjdojcenflliaaLdpv
namespace Go.Proofs.Ytbjdojcenflliaa
open Go.RowKit Go.Shelf
attribute [local go_sem] Oper.semAt_some
attribute [local go_sem] After.cell After.frozen After.lt After.le After.ne After.ne' After.set_eq After.size_set After.lt_add

set_option maxRecDepth 100000 in
set_option maxHeartbeats 1000000 in
theorem rbad_any (fi ga tp le lp sg : Int) (a : Option Addr) (n cap : Nat) (hg : Nat → Int) (sd : Nat → Bool) (w : World) (hA : JtAt w a n hg sd) (hn : n ≤ 9223372036854775807) {q : Bool} (hq : (!decide (VcP fi ga tp le lp sg ∧ VjP n hg)) = q) :
    Calls Try.prog 53 #[.agg #[.int .i64 fi, .int .i64 ga, .int .i64 tp, .int .i64 le, .int .i64 lp, .int .i64 sg], .slice a n cap] w fun e w' => e = .returned (.bool q) ∧ Below w.heap.size w w' := by
  have HV := Lib.hid (fun W (hW : Below w.heap.size w W) => rvalidJoints_any a n cap hg sd W (hA.on hW) hn)
  have HC := Lib.hid (fun W => rvalidClimb_any fi ga tp le lp sg W)
  clear hA
  by_cases hj : VjP n hg
  · rw [decide_eq_true hj] at HV
    by_cases hc : VcP fi ga tp le lp sg
    · rw [decide_eq_true hc] at HC
      obtain rfl : false = q := by rw [← hq]; simp [hc, hj]
      clear hq hj hc
      go_enter Try.func53, Try.ntmps53
      go_wp2_with fail
      refine calls_after (HV.out _ (by (repeat' (first | (with_reducible exact Below.refl _ _) | (with_reducible assumption) | (with_reducible refine Below.alloc ?_ ?_ _) | (with_reducible refine Below.drew ?_) | (with_reducible refine below_drewN ?_ _) | (with_reducible refine Below.setCell ?_ ?_ _) | (with_reducible refine below_after ?_ ?_ _) | (with_reducible refine below_set ?_) | (with_reducible refine After.size_le _ ?_) | (with_reducible refine size_alloc_le ?_) | (with_reducible refine size_set_le ?_) | (with_reducible refine size_drewN_le ?_) | go_size)))) ?_
      intro x1
      go_wp2_with fail
      refine calls_after2 (HC.out _) ?_
      intro x2
      go_wp2
      go_returns
      exact ⟨rfl, by (repeat' (first | (with_reducible exact Below.refl _ _) | (with_reducible assumption) | (with_reducible refine Below.alloc ?_ ?_ _) | (with_reducible refine Below.drew ?_) | (with_reducible refine below_drewN ?_ _) | (with_reducible refine Below.setCell ?_ ?_ _) | (with_reducible refine below_after ?_ ?_ _) | (with_reducible refine below_set ?_) | (with_reducible refine After.size_le _ ?_) | (with_reducible refine size_alloc_le ?_) | (with_reducible refine size_set_le ?_) | (with_reducible refine size_drewN_le ?_) | go_size))⟩
    · rw [decide_eq_false hc] at HC
      obtain rfl : true = q := by rw [← hq]; simp [hc]
      clear hq hj hc
      go_enter Try.func53, Try.ntmps53
      go_wp2_with fail
      refine calls_after (HV.out _ (by (repeat' (first | (with_reducible exact Below.refl _ _) | (with_reducible assumption) | (with_reducible refine Below.alloc ?_ ?_ _) | (with_reducible refine Below.drew ?_) | (with_reducible refine below_drewN ?_ _) | (with_reducible refine Below.setCell ?_ ?_ _) | (with_reducible refine below_after ?_ ?_ _) | (with_reducible refine below_set ?_) | (with_reducible refine After.size_le _ ?_) | (with_reducible refine size_alloc_le ?_) | (with_reducible refine size_set_le ?_) | (with_reducible refine size_drewN_le ?_) | go_size)))) ?_
      intro x1
      go_wp2_with fail
      refine calls_after2 (HC.out _) ?_
      intro x2
      go_wp2
      go_returns
      exact ⟨rfl, by (repeat' (first | (with_reducible exact Below.refl _ _) | (with_reducible assumption) | (with_reducible refine Below.alloc ?_ ?_ _) | (with_reducible refine Below.drew ?_) | (with_reducible refine below_drewN ?_ _) | (with_reducible refine Below.setCell ?_ ?_ _) | (with_reducible refine below_after ?_ ?_ _) | (with_reducible refine below_set ?_) | (with_reducible refine After.size_le _ ?_) | (with_reducible refine size_alloc_le ?_) | (with_reducible refine size_set_le ?_) | (with_reducible refine size_drewN_le ?_) | go_size))⟩
  · rw [decide_eq_false hj] at HV
    obtain rfl : true = q := by rw [← hq]; simp [hj]
    clear hq hj
    go_enter Try.func53, Try.ntmps53
    go_wp2_with fail
    refine calls_after (HV.out _ (by (repeat' (first | (with_reducible exact Below.refl _ _) | (with_reducible assumption) | (with_reducible refine Below.alloc ?_ ?_ _) | (with_reducible refine Below.drew ?_) | (with_reducible refine below_drewN ?_ _) | (with_reducible refine Below.setCell ?_ ?_ _) | (with_reducible refine below_after ?_ ?_ _) | (with_reducible refine below_set ?_) | (with_reducible refine After.size_le _ ?_) | (with_reducible refine size_alloc_le ?_) | (with_reducible refine size_set_le ?_) | (with_reducible refine size_drewN_le ?_) | go_size)))) ?_
    intro x1
    go_wp2
    go_returns
    exact ⟨rfl, by (repeat' (first | (with_reducible exact Below.refl _ _) | (with_reducible assumption) | (with_reducible refine Below.alloc ?_ ?_ _) | (with_reducible refine Below.drew ?_) | (with_reducible refine below_drewN ?_ _) | (with_reducible refine Below.setCell ?_ ?_ _) | (with_reducible refine below_after ?_ ?_ _) | (with_reducible refine below_set ?_) | (with_reducible refine After.size_le _ ?_) | (with_reducible refine size_alloc_le ?_) | (with_reducible refine size_set_le ?_) | (with_reducible refine size_drewN_le ?_) | go_size))⟩
set_option maxRecDepth 100000 in
set_option maxHeartbeats 4000000 in
theorem rProves_any (fi ga tp le lp sg : Int) (a : Option Addr) (n cap : Nat) (hg : Nat → Int) (sd : Nat → Bool) (ht : Int) (w : World) (hA : JtAt w a n hg sd) (hn : n ≤ 9223372036854775807) {q : Bool} (hq : decide ((VcP fi ga tp le lp sg ∧ VjP n hg) ∧ PvP hg sd n fi ga tp ht) = q) :
    Calls Try.prog 29 #[.agg #[.int .i64 fi, .int .i64 ga, .int .i64 tp, .int .i64 le, .int .i64 lp, .int .i64 sg], .slice a n cap, .int .i64 ht] w fun e w' => e = .returned (.bool q) ∧ Below w.heap.size w w' := by
  have HV := Lib.hid (fun q' hq' W (hW : Below w.heap.size w W) => rbad_any fi ga tp le lp sg a n cap hg sd W (hA.on hW) hn (q := q') hq')
  have HA := Lib.hid hA
  clear hA
  have HQ := Lib.hid hq
  clear hq
  by_cases hv : VcP fi ga tp le lp sg ∧ VjP n hg
  · have HV := Lib.hid (HV.out false (by simp [hv]))
    by_cases hb : Bt3 ht 0 200000
    · have HB := Lib.hid (fun W => within_after ht 0 200000 W (decide_eq_true hb))
      have hnI : (n : Int) ≤ 200 := by have := hv.2.1; omega
      have hht : 0 ≤ ht ∧ ht ≤ 200000 := hb
      obtain ⟨hht0, hht1⟩ := hht
      have hga : 1 ≤ ga ∧ ga ≤ 200000 := hv.1.2.1
      obtain ⟨hga0, hga1⟩ := hga
      have HP := Lib.hid (fun k hk => vjT_pos hv.2.2 (i := k) hk)
      have HQ2 : Hid (decide (PvP hg sd n fi ga tp ht) = q) := Lib.hid (by rw [← HQ.out]; simp [hv])
      clear hv HQ
      by_cases hp : 0 < ht
      · by_cases htop : tp ≤ ht + ga
        · have HQ3 : Hid (false = q) := Lib.hid (by rw [← HQ2.out]; exact (decide_eq_false fun h => by have := h.2.1 hp; omega).symm)
          have hp2 : decide (0 < ht) = true := decide_eq_true hp
          have htop2 : decide (tp ≤ ht + ga) = true := decide_eq_true htop
          clear HQ2 hb
          go_enter Try.func29, Try.ntmps29
          go_wp2_with fail
          refine calls_after (HV.out _ (by (repeat' (first | (with_reducible exact Below.refl _ _) | (with_reducible assumption) | (with_reducible refine Below.alloc ?_ ?_ _) | (with_reducible refine Below.drew ?_) | (with_reducible refine below_drewN ?_ _) | (with_reducible refine Below.setCell ?_ ?_ _) | (with_reducible refine below_after ?_ ?_ _) | (with_reducible refine below_set ?_) | (with_reducible refine After.size_le _ ?_) | (with_reducible refine size_alloc_le ?_) | (with_reducible refine size_set_le ?_) | (with_reducible refine size_drewN_le ?_) | go_size)))) ?_
          intro x1
          go_wp2_with fail
          refine calls_after2 (HB.out _) ?_
          intro x2
          have HB2 : Hid (Below w.heap.size w x2.w) := Lib.hid (by (repeat' (first | (with_reducible exact Below.refl _ _) | (with_reducible assumption) | (with_reducible refine Below.alloc ?_ ?_ _) | (with_reducible refine Below.drew ?_) | (with_reducible refine below_drewN ?_ _) | (with_reducible refine Below.setCell ?_ ?_ _) | (with_reducible refine below_after ?_ ?_ _) | (with_reducible refine below_set ?_) | (with_reducible refine After.size_le _ ?_) | (with_reducible refine size_alloc_le ?_) | (with_reducible refine size_set_le ?_) | (with_reducible refine size_drewN_le ?_) | go_size)))
          go_wp2
          go_returns
          exact ⟨by rw [← HQ3.out]; rfl, HB2.out⟩
        · have hp2 : decide (0 < ht) = true := decide_eq_true hp
          have htop2 : decide (tp ≤ ht + ga) = false := decide_eq_false htop
          have HT0 : Hid (∀ q' : Bool, decide (∀ k, k < n → ¬ (sd k = true ∧ ht < hg k ∧ (hg k ≤ fi ∨ (0 < ht ∧ hg k ≤ ht + ga)))) = q' → q' = q) := Lib.hid (fun q' hq' => by
            rw [← hq', ← HQ2.out, Bool.eq_iff_iff]
            simp only [decide_eq_true_eq]
            exact ⟨fun h => ⟨hb, fun _ => by omega, h⟩, fun h => h.2.2⟩)
          clear HQ2 hb
          go_enter Try.func29, Try.ntmps29
          go_wp2_with fail
          refine calls_after (HV.out _ (by (repeat' (first | (with_reducible exact Below.refl _ _) | (with_reducible assumption) | (with_reducible refine Below.alloc ?_ ?_ _) | (with_reducible refine Below.drew ?_) | (with_reducible refine below_drewN ?_ _) | (with_reducible refine Below.setCell ?_ ?_ _) | (with_reducible refine below_after ?_ ?_ _) | (with_reducible refine below_set ?_) | (with_reducible refine After.size_le _ ?_) | (with_reducible refine size_alloc_le ?_) | (with_reducible refine size_set_le ?_) | (with_reducible refine size_drewN_le ?_) | go_size)))) ?_
          intro x1
          go_wp2_with fail
          refine calls_after2 (HB.out _) ?_
          intro x2
          have HB2 : Hid (Below w.heap.size w x2.w) := Lib.hid (by (repeat' (first | (with_reducible exact Below.refl _ _) | (with_reducible assumption) | (with_reducible refine Below.alloc ?_ ?_ _) | (with_reducible refine Below.drew ?_) | (with_reducible refine below_drewN ?_ _) | (with_reducible refine Below.setCell ?_ ?_ _) | (with_reducible refine below_after ?_ ?_ _) | (with_reducible refine below_set ?_) | (with_reducible refine After.size_le _ ?_) | (with_reducible refine size_alloc_le ?_) | (with_reducible refine size_set_le ?_) | (with_reducible refine size_drewN_le ?_) | go_size)))
          have HA2 := Lib.hid (HA.out.on HB2.out)
          have hx1 := x2.out.size
          simp only [World.size_alloc] at hx1
          have kb0 : x2.w.cell? ⟨w.heap.size, 0, none⟩ = some (.int .i64 fi) := (x2.out.cell (p := ⟨w.heap.size, 0, none⟩) (by simp)).trans (by simp [go_sem])
          have kb1 : x2.w.cell? ⟨w.heap.size, 1, none⟩ = some (.int .i64 ga) := (x2.out.cell (p := ⟨w.heap.size, 1, none⟩) (by simp)).trans (by simp [go_sem])
          have hx2 : w.heap.size < x2.w.heap.size := by omega
          clear HV HB x1
          go_wp2
          go_loopw [7] (fun i W => ∃ k : Nat, k ≤ n ∧ i = .int .i64 k ∧ Hid (∀ j, j < k → ¬ (sd j = true ∧ ht < hg j ∧ (hg j ≤ fi ∨ (0 < ht ∧ hg j ≤ ht + ga)))) ∧ ∃ x : After x2.w, W = x.w) (fun i _ => n - (intOf i).toNat)
          case atStart => exact ⟨0, Nat.zero_le _, rfl, Lib.hid (fun j hj => absurd hj (by omega)), ⟨x2.w, Below.refl _ _⟩, rfl⟩
          case round =>
            obtain ⟨k, hk, rfl, HT, x, rfl⟩ := hrel
            have hxs := x.out.size
            have hx3 : w.heap.size < x.w.heap.size := by omega
            by_cases hlt : k < n
            · have hlti : (k : Int) < (n : Int) := by omega
              obtain ⟨b, off, rfl, hbb, c0, c1⟩ := HA2.out k hlt
              have hb3 : b < x.w.heap.size := by omega
              have hpk := HP.out k hlt
              obtain ⟨hpk0, hpk1⟩ := hpk
              have HF : Hid ((sd k = true ∧ ht < hg k ∧ (hg k ≤ fi ∨ (0 < ht ∧ hg k ≤ ht + ga))) → false = q) := Lib.hid (fun h => HT0.out false (decide_eq_false fun h2 => h2 k hlt h))
              have HG : Hid (¬ (sd k = true ∧ ht < hg k ∧ (hg k ≤ fi ∨ (0 < ht ∧ hg k ≤ ht + ga))) → ∀ j, j < k + 1 → ¬ (sd j = true ∧ ht < hg j ∧ (hg j ≤ fi ∨ (0 < ht ∧ hg j ≤ ht + ga)))) := Lib.hid (fun h j hj => by
                by_cases e : j = k
                · subst e; exact h
                · exact HT.out j (by omega))
              generalize hg k = v at *
              cases hsd : sd k
              · have HV := Lib.hid (HG.out (fun h => by rw [hsd] at h; cases h.1))
                rw [hsd] at c1
                clear hsd
                clear HF HG HT
                have HYD := Lib.hid x.out
                go_wp2
                go_roundw
                case rel => exact ⟨k + 1, by omega, by go_num, HV, ⟨_, HYD.out⟩, rfl⟩
                case measure => simp [intOf]; omega
              · rw [hsd] at c1
                by_cases d1 : ht < v
                · have d1b : decide (ht < v) = true := decide_eq_true d1
                  by_cases d2 : v ≤ fi
                  · have d2b : decide (v ≤ fi) = true := decide_eq_true d2
                    have HV := Lib.hid (HF.out ⟨hsd, d1, .inl d2⟩)
                    clear hsd
                    clear HF HG HT
                    have HYD := Lib.hid x.out
                    go_wp2
                    go_returns
                    exact ⟨by rw [← HV.out]; rfl, HB2.out.trans (HYD.out.mono HB2.out.size)⟩
                  · have d2b : decide (v ≤ fi) = false := decide_eq_false d2
                    by_cases d3 : v - ht ≤ ga
                    · have d3b : decide (v - ht ≤ ga) = true := decide_eq_true d3
                      have HV := Lib.hid (HF.out ⟨hsd, d1, .inr ⟨hp, by omega⟩⟩)
                      clear hsd
                      clear HF HG HT
                      have HYD := Lib.hid x.out
                      go_wp2
                      go_returns
                      exact ⟨by rw [← HV.out]; rfl, HB2.out.trans (HYD.out.mono HB2.out.size)⟩
                    · have d3b : decide (v - ht ≤ ga) = false := decide_eq_false d3
                      have HV := Lib.hid (HG.out (fun h => by rcases h.2.2 with h | h; exact d2 h; exact d3 (by omega)))
                      clear hsd
                      clear HF HG HT
                      have HYD := Lib.hid x.out
                      go_wp2
                      go_roundw
                      case rel => exact ⟨k + 1, by omega, by go_num, HV, ⟨_, HYD.out⟩, rfl⟩
                      case measure => simp [intOf]; omega
                · have d1b : decide (ht < v) = false := decide_eq_false d1
                  have HV := Lib.hid (HG.out (fun h => d1 h.2.1))
                  clear hsd
                  clear HF HG HT
                  have HYD := Lib.hid x.out
                  go_wp2
                  go_roundw
                  case rel => exact ⟨k + 1, by omega, by go_num, HV, ⟨_, HYD.out⟩, rfl⟩
                  case measure => simp [intOf]; omega
            · obtain rfl : k = n := by omega
              have HV := Lib.hid (HT0.out true (decide_eq_true HT.out))
              go_wp2
              go_returns
              exact ⟨by rw [← HV.out]; rfl, HB2.out.trans (x.out.mono HB2.out.size)⟩
      · have hp2 : decide (0 < ht) = false := decide_eq_false hp
        have HT0 : Hid (∀ q' : Bool, decide (∀ k, k < n → ¬ (sd k = true ∧ ht < hg k ∧ (hg k ≤ fi ∨ (0 < ht ∧ hg k ≤ ht + ga)))) = q' → q' = q) := Lib.hid (fun q' hq' => by
          rw [← hq', ← HQ2.out, Bool.eq_iff_iff]
          simp only [decide_eq_true_eq]
          exact ⟨fun h => ⟨hb, fun _ => by omega, h⟩, fun h => h.2.2⟩)
        clear HQ2 hb
        go_enter Try.func29, Try.ntmps29
        go_wp2_with fail
        refine calls_after (HV.out _ (by (repeat' (first | (with_reducible exact Below.refl _ _) | (with_reducible assumption) | (with_reducible refine Below.alloc ?_ ?_ _) | (with_reducible refine Below.drew ?_) | (with_reducible refine below_drewN ?_ _) | (with_reducible refine Below.setCell ?_ ?_ _) | (with_reducible refine below_after ?_ ?_ _) | (with_reducible refine below_set ?_) | (with_reducible refine After.size_le _ ?_) | (with_reducible refine size_alloc_le ?_) | (with_reducible refine size_set_le ?_) | (with_reducible refine size_drewN_le ?_) | go_size)))) ?_
        intro x1
        go_wp2_with fail
        refine calls_after2 (HB.out _) ?_
        intro x2
        have HB2 : Hid (Below w.heap.size w x2.w) := Lib.hid (by (repeat' (first | (with_reducible exact Below.refl _ _) | (with_reducible assumption) | (with_reducible refine Below.alloc ?_ ?_ _) | (with_reducible refine Below.drew ?_) | (with_reducible refine below_drewN ?_ _) | (with_reducible refine Below.setCell ?_ ?_ _) | (with_reducible refine below_after ?_ ?_ _) | (with_reducible refine below_set ?_) | (with_reducible refine After.size_le _ ?_) | (with_reducible refine size_alloc_le ?_) | (with_reducible refine size_set_le ?_) | (with_reducible refine size_drewN_le ?_) | go_size)))
        have HA2 := Lib.hid (HA.out.on HB2.out)
        have hx1 := x2.out.size
        simp only [World.size_alloc] at hx1
        have kb0 : x2.w.cell? ⟨w.heap.size, 0, none⟩ = some (.int .i64 fi) := (x2.out.cell (p := ⟨w.heap.size, 0, none⟩) (by simp)).trans (by simp [go_sem])
        have kb1 : x2.w.cell? ⟨w.heap.size, 1, none⟩ = some (.int .i64 ga) := (x2.out.cell (p := ⟨w.heap.size, 1, none⟩) (by simp)).trans (by simp [go_sem])
        have hx2 : w.heap.size < x2.w.heap.size := by omega
        clear HV HB x1
        go_wp2
        go_loopw [7] (fun i W => ∃ k : Nat, k ≤ n ∧ i = .int .i64 k ∧ Hid (∀ j, j < k → ¬ (sd j = true ∧ ht < hg j ∧ (hg j ≤ fi ∨ (0 < ht ∧ hg j ≤ ht + ga)))) ∧ ∃ x : After x2.w, W = x.w) (fun i _ => n - (intOf i).toNat)
        case atStart => exact ⟨0, Nat.zero_le _, rfl, Lib.hid (fun j hj => absurd hj (by omega)), ⟨x2.w, Below.refl _ _⟩, rfl⟩
        case round =>
          obtain ⟨k, hk, rfl, HT, x, rfl⟩ := hrel
          have hxs := x.out.size
          have hx3 : w.heap.size < x.w.heap.size := by omega
          by_cases hlt : k < n
          · have hlti : (k : Int) < (n : Int) := by omega
            obtain ⟨b, off, rfl, hbb, c0, c1⟩ := HA2.out k hlt
            have hb3 : b < x.w.heap.size := by omega
            have hpk := HP.out k hlt
            obtain ⟨hpk0, hpk1⟩ := hpk
            have HF : Hid ((sd k = true ∧ ht < hg k ∧ (hg k ≤ fi ∨ (0 < ht ∧ hg k ≤ ht + ga))) → false = q) := Lib.hid (fun h => HT0.out false (decide_eq_false fun h2 => h2 k hlt h))
            have HG : Hid (¬ (sd k = true ∧ ht < hg k ∧ (hg k ≤ fi ∨ (0 < ht ∧ hg k ≤ ht + ga))) → ∀ j, j < k + 1 → ¬ (sd j = true ∧ ht < hg j ∧ (hg j ≤ fi ∨ (0 < ht ∧ hg j ≤ ht + ga)))) := Lib.hid (fun h j hj => by
              by_cases e : j = k
              · subst e; exact h
              · exact HT.out j (by omega))
            generalize hg k = v at *
            cases hsd : sd k
            · have HV := Lib.hid (HG.out (fun h => by rw [hsd] at h; cases h.1))
              rw [hsd] at c1
              clear hsd
              clear HF HG HT
              have HYD := Lib.hid x.out
              go_wp2
              go_roundw
              case rel => exact ⟨k + 1, by omega, by go_num, HV, ⟨_, HYD.out⟩, rfl⟩
              case measure => simp [intOf]; omega
            · rw [hsd] at c1
              by_cases d1 : ht < v
              · have d1b : decide (ht < v) = true := decide_eq_true d1
                by_cases d2 : v ≤ fi
                · have d2b : decide (v ≤ fi) = true := decide_eq_true d2
                  have HV := Lib.hid (HF.out ⟨hsd, d1, .inl d2⟩)
                  clear hsd
                  clear HF HG HT
                  have HYD := Lib.hid x.out
                  go_wp2
                  go_returns
                  exact ⟨by rw [← HV.out]; rfl, HB2.out.trans (HYD.out.mono HB2.out.size)⟩
                · have d2b : decide (v ≤ fi) = false := decide_eq_false d2
                  have HV := Lib.hid (HG.out (fun h => by rcases h.2.2 with h | h <;> omega))
                  clear hsd
                  clear HF HG HT
                  have HYD := Lib.hid x.out
                  go_wp2
                  go_roundw
                  case rel => exact ⟨k + 1, by omega, by go_num, HV, ⟨_, HYD.out⟩, rfl⟩
                  case measure => simp [intOf]; omega
              · exact absurd d1 (by omega)
          · obtain rfl : k = n := by omega
            have HV := Lib.hid (HT0.out true (decide_eq_true HT.out))
            go_wp2
            go_returns
            exact ⟨by rw [← HV.out]; rfl, HB2.out.trans (x.out.mono HB2.out.size)⟩
    · have HB := Lib.hid (fun W => within_after ht 0 200000 W (decide_eq_false hb))
      have HQ3 : Hid (false = q) := Lib.hid (by rw [← HQ.out]; exact (decide_eq_false fun h => hb h.2.1).symm)
      clear HQ hv hb
      go_enter Try.func29, Try.ntmps29
      go_wp2_with fail
      refine calls_after (HV.out _ (by (repeat' (first | (with_reducible exact Below.refl _ _) | (with_reducible assumption) | (with_reducible refine Below.alloc ?_ ?_ _) | (with_reducible refine Below.drew ?_) | (with_reducible refine below_drewN ?_ _) | (with_reducible refine Below.setCell ?_ ?_ _) | (with_reducible refine below_after ?_ ?_ _) | (with_reducible refine below_set ?_) | (with_reducible refine After.size_le _ ?_) | (with_reducible refine size_alloc_le ?_) | (with_reducible refine size_set_le ?_) | (with_reducible refine size_drewN_le ?_) | go_size)))) ?_
      intro x1
      go_wp2_with fail
      refine calls_after2 (HB.out _) ?_
      intro x2
      have HB2 : Hid (Below w.heap.size w x2.w) := Lib.hid (by (repeat' (first | (with_reducible exact Below.refl _ _) | (with_reducible assumption) | (with_reducible refine Below.alloc ?_ ?_ _) | (with_reducible refine Below.drew ?_) | (with_reducible refine below_drewN ?_ _) | (with_reducible refine Below.setCell ?_ ?_ _) | (with_reducible refine below_after ?_ ?_ _) | (with_reducible refine below_set ?_) | (with_reducible refine After.size_le _ ?_) | (with_reducible refine size_alloc_le ?_) | (with_reducible refine size_set_le ?_) | (with_reducible refine size_drewN_le ?_) | go_size)))
      go_wp2
      go_returns
      exact ⟨by rw [← HQ3.out]; rfl, HB2.out⟩
  · have HV := Lib.hid (HV.out true (by simp [hv]))
    have HQ3 : Hid (false = q) := Lib.hid (by rw [← HQ.out]; exact (decide_eq_false fun h => hv h.1).symm)
    clear HQ hv
    go_enter Try.func29, Try.ntmps29
    go_wp2_with fail
    refine calls_after (HV.out _ (by (repeat' (first | (with_reducible exact Below.refl _ _) | (with_reducible assumption) | (with_reducible refine Below.alloc ?_ ?_ _) | (with_reducible refine Below.drew ?_) | (with_reducible refine below_drewN ?_ _) | (with_reducible refine Below.setCell ?_ ?_ _) | (with_reducible refine below_after ?_ ?_ _) | (with_reducible refine below_set ?_) | (with_reducible refine After.size_le _ ?_) | (with_reducible refine size_alloc_le ?_) | (with_reducible refine size_set_le ?_) | (with_reducible refine size_drewN_le ?_) | go_size)))) ?_
    intro x1
    go_wp2
    go_returns
    exact ⟨by rw [← HQ3.out]; rfl, by (repeat' (first | (with_reducible exact Below.refl _ _) | (with_reducible assumption) | (with_reducible refine Below.alloc ?_ ?_ _) | (with_reducible refine Below.drew ?_) | (with_reducible refine below_drewN ?_ _) | (with_reducible refine Below.setCell ?_ ?_ _) | (with_reducible refine below_after ?_ ?_ _) | (with_reducible refine below_set ?_) | (with_reducible refine After.size_le _ ?_) | (with_reducible refine size_alloc_le ?_) | (with_reducible refine size_set_le ?_) | (with_reducible refine size_drewN_le ?_) | go_size))⟩
end Go.Proofs.Ytbjdojcenflliaa
