/- Proves, in the program and in the reference. -/
import Derived.Test.YtbjdojcenflliaaLdy
namespace Go.Proofs.Ytbjdojcenflliaa
open Go.RowKit Go.Shelf
attribute [local go_sem] Oper.semAt_some
attribute [local go_sem] After.cell After.frozen After.lt After.le After.ne After.ne' After.set_eq After.size_set After.lt_add

theorem between_after (n a b : Int) (w : World) {x : Bool} (h : decide (Bt3 n a b) = x) : Calls Try.prog 47 #[.int .i64 n, .int .i64 a, .int .i64 b] w fun e w' => e = .returned (.bool x) ∧ Below w.heap.size w w' :=
  (between3_b n a b w h).mono fun _ _ h => ⟨h.1, h.2 ▸ Below.refl _ _⟩
theorem within_after (n a b : Int) (w : World) {x : Bool} (h : decide (Bt3 n a b) = x) : Calls Try.prog 48 #[.int .i64 n, .int .i64 a, .int .i64 b] w fun e w' => e = .returned (.bool x) ∧ Below w.heap.size w w' :=
  (within3_b n a b w h).mono fun _ _ h => ⟨h.1, h.2 ▸ Below.refl _ _⟩
set_option maxRecDepth 100000 in
set_option maxHeartbeats 4000000 in
theorem Proves_any (fi ga tp le lp sg : Int) (a : Option Addr) (n cap : Nat) (hg : Nat → Int) (sd : Nat → Bool) (ht : Int) (w : World) (hA : JtAt w a n hg sd) (hn : n ≤ 9223372036854775807) {q : Bool} (hq : decide ((VcP fi ga tp le lp sg ∧ VjP n hg) ∧ PvP hg sd n fi ga tp ht) = q) :
    Calls Try.prog 28 #[.agg #[.int .i64 fi, .int .i64 ga, .int .i64 tp, .int .i64 le, .int .i64 lp, .int .i64 sg], .slice a n cap, .int .i64 ht] w fun e w' => e = .returned (.bool q) ∧ Below w.heap.size w w' := by
  have HV := Lib.hid (fun W (hW : Below w.heap.size w W) => wvalid_any fi ga tp le lp sg a n cap hg sd W (hA.on hW) hn)
  have HA := Lib.hid hA
  clear hA
  have HQ := Lib.hid hq
  clear hq
  by_cases hv : VcP fi ga tp le lp sg ∧ VjP n hg
  · have hd : (decide (VcP fi ga tp le lp sg) && decide (VjP n hg)) = true := by simp [hv]
    rw [hd] at HV
    by_cases hb : Bt3 ht 0 200000
    · have HB := Lib.hid (fun W => between_after ht 0 200000 W (decide_eq_true hb))
      clear hd
      go_enter Try.func28, Try.ntmps28
      have hj := hv.2.1
      have hnI : (n : Int) ≤ 200 := by omega
      have hht : 0 ≤ ht ∧ ht ≤ 200000 := hb
      obtain ⟨hht0, hht1⟩ := hht
      have hga : 1 ≤ ga ∧ ga ≤ 200000 := hv.1.2.1
      obtain ⟨hga0, hga1⟩ := hga
      have hfi : 1 ≤ fi ∧ fi ≤ 200000 := hv.1.1
      obtain ⟨hfi0, hfi1⟩ := hfi
      have HQ2 : Hid (decide (PvP hg sd n fi ga tp ht) = q) := Lib.hid (by rw [← HQ.out]; simp [hv])
      clear hj hv HQ
      by_cases hp : 0 < ht
      · by_cases htop : tp ≤ ht + ga
        · have HQ3 : Hid (false = q) := Lib.hid (by rw [← HQ2.out]; exact (decide_eq_false fun h => by have := h.2.1 hp; omega).symm)
          clear HQ2 hb
          go_wp2_with fail
          refine calls_after (HV.out _ (by (repeat' (first | (with_reducible exact Below.refl _ _) | (with_reducible assumption) | (with_reducible refine Below.alloc ?_ ?_ _) | (with_reducible refine Below.drew ?_) | (with_reducible refine below_drewN ?_ _) | (with_reducible refine Below.setCell ?_ ?_ _) | (with_reducible refine below_after ?_ ?_ _) | (with_reducible refine below_set ?_) | (with_reducible refine After.size_le _ ?_) | (with_reducible refine size_alloc_le ?_) | (with_reducible refine size_set_le ?_) | (with_reducible refine size_drewN_le ?_) | go_size)))) ?_
          intro x1
          go_wp2_with fail
          refine calls_after2 (HB.out _) ?_
          intro x2
          have HB2 : Hid (Below w.heap.size w x2.w) := Lib.hid (by (repeat' (first | (with_reducible exact Below.refl _ _) | (with_reducible assumption) | (with_reducible refine Below.alloc ?_ ?_ _) | (with_reducible refine Below.drew ?_) | (with_reducible refine below_drewN ?_ _) | (with_reducible refine Below.setCell ?_ ?_ _) | (with_reducible refine below_after ?_ ?_ _) | (with_reducible refine below_set ?_) | (with_reducible refine After.size_le _ ?_) | (with_reducible refine size_alloc_le ?_) | (with_reducible refine size_set_le ?_) | (with_reducible refine size_drewN_le ?_) | go_size)))
          by_cases hx : fi < ht + ga
          · go_wp2
            go_returns
            exact ⟨by rw [← HQ3.out]; rfl, HB2.out⟩
          · go_wp2
            go_returns
            exact ⟨by rw [← HQ3.out]; rfl, HB2.out⟩
        · by_cases hx : fi < ht + ga
          · have hxI : fi < ht + ga := hx
            have HN : Hid (∀ v, Bt3 v (ht + 1) (ht + ga) ↔ (ht < v ∧ (v ≤ fi ∨ (0 < ht ∧ v ≤ ht + ga)))) := Lib.hid (fun v => by unfold Bt3; omega)
            have HT0 : Hid (∀ q' : Bool, decide (∀ k, k < n → ¬ (sd k = true ∧ Bt3 (hg k) (ht + 1) (ht + ga))) = q' → q' = q) := Lib.hid (fun q' hq' => by
              rw [← hq', ← HQ2.out, Bool.eq_iff_iff]
              simp only [decide_eq_true_eq]
              refine ⟨fun h => ⟨hb, fun _ => by omega, fun k hk hx => h k hk ⟨hx.1, (HN.out _).2 hx.2⟩⟩, fun h k hk hx => h.2.2 k hk ⟨hx.1, (HN.out _).1 hx.2⟩⟩)
            clear HQ2 hb
            go_wp2_with fail
            refine calls_after (HV.out _ (by (repeat' (first | (with_reducible exact Below.refl _ _) | (with_reducible assumption) | (with_reducible refine Below.alloc ?_ ?_ _) | (with_reducible refine Below.drew ?_) | (with_reducible refine below_drewN ?_ _) | (with_reducible refine Below.setCell ?_ ?_ _) | (with_reducible refine below_after ?_ ?_ _) | (with_reducible refine below_set ?_) | (with_reducible refine After.size_le _ ?_) | (with_reducible refine size_alloc_le ?_) | (with_reducible refine size_set_le ?_) | (with_reducible refine size_drewN_le ?_) | go_size)))) ?_
            intro x1
            go_wp2_with fail
            refine calls_after2 (HB.out _) ?_
            intro x2
            have HB2 : Hid (Below w.heap.size w x2.w) := Lib.hid (by (repeat' (first | (with_reducible exact Below.refl _ _) | (with_reducible assumption) | (with_reducible refine Below.alloc ?_ ?_ _) | (with_reducible refine Below.drew ?_) | (with_reducible refine below_drewN ?_ _) | (with_reducible refine Below.setCell ?_ ?_ _) | (with_reducible refine below_after ?_ ?_ _) | (with_reducible refine below_set ?_) | (with_reducible refine After.size_le _ ?_) | (with_reducible refine size_alloc_le ?_) | (with_reducible refine size_set_le ?_) | (with_reducible refine size_drewN_le ?_) | go_size)))
            have HA2 := Lib.hid (HA.out.on HB2.out)
            clear HV HB x1 HN
            go_wp2
            go_loopw [45] (fun i W => ∃ k : Nat, k ≤ n ∧ i = .int .i64 k ∧ Hid (∀ j, j < k → ¬ (sd j = true ∧ Bt3 (hg j) (ht + 1) (ht + ga))) ∧ ∃ x : After x2.w, W = x.w) (fun i _ => n - (intOf i).toNat)
            case atStart => exact ⟨0, Nat.zero_le _, rfl, Lib.hid (fun j hj => absurd hj (by omega)), ⟨x2.w, Below.refl _ _⟩, rfl⟩
            case round =>
              obtain ⟨k, hk, rfl, HT, x, rfl⟩ := hrel
              by_cases hlt : k < n
              · have hlti : (k : Int) < (n : Int) := by omega
                obtain ⟨b, off, rfl, hbb, c0, c1⟩ := HA2.out k hlt
                have HF : Hid ((sd k = true ∧ Bt3 (hg k) (ht + 1) (ht + ga)) → false = q) := Lib.hid (fun h => HT0.out false (decide_eq_false fun h2 => h2 k hlt h))
                have HG : Hid (¬ (sd k = true ∧ Bt3 (hg k) (ht + 1) (ht + ga)) → ∀ j, j < k + 1 → ¬ (sd j = true ∧ Bt3 (hg j) (ht + 1) (ht + ga))) := Lib.hid (fun h j hj => by
                  by_cases e : j = k
                  · subst e; exact h
                  · exact HT.out j (by omega))
                generalize hg k = v at *
                cases hsd : sd k
                · have HV := Lib.hid (HG.out (fun h => by rw [hsd] at h; cases h.1))
                  rw [hsd] at c1
                  clear hsd HF HG HT
                  go_wp2
                  go_roundw
                  case rel => exact ⟨k + 1, by omega, by go_num, HV, ⟨_, x.out.alloc x.out.size _⟩, rfl⟩
                  case measure => simp [intOf]; omega
                · rw [hsd] at c1
                  cases hbt : decide (Bt3 v (ht + 1) (ht + ga))
                  · have HV := Lib.hid (HG.out (fun h => absurd h.2 (of_decide_eq_false hbt)))
                    have HBt := Lib.hid (fun W => between3_b v (ht + 1) (ht + ga) W hbt)
                    clear hsd HF HG HT hbt
                    go_wp2_with (first | (go_at_call 47; refine (HBt.out _).mono ?_; rintro e w' ⟨rfl, rfl⟩))
                    go_roundw
                    case rel => exact ⟨k + 1, by omega, by go_num, HV, ⟨_, x.out.alloc x.out.size _⟩, rfl⟩
                    case measure => simp [intOf]; omega
                  · have HV := Lib.hid (HF.out ⟨hsd, of_decide_eq_true hbt⟩)
                    have HBt := Lib.hid (fun W => between3_b v (ht + 1) (ht + ga) W hbt)
                    clear hsd HF HG HT hbt
                    go_wp2_with (first | (go_at_call 47; refine (HBt.out _).mono ?_; rintro e w' ⟨rfl, rfl⟩))
                    go_returns
                    exact ⟨by rw [← HV.out]; rfl, HB2.out.trans ((x.out.alloc x.out.size _).mono HB2.out.size)⟩
              · obtain rfl : k = n := by omega
                have HV := Lib.hid (HT0.out true (decide_eq_true HT.out))
                go_wp2
                go_returns
                exact ⟨by rw [← HV.out]; rfl, HB2.out.trans (x.out.mono HB2.out.size)⟩
          · have HN : Hid (∀ v, Bt3 v (ht + 1) (fi) ↔ (ht < v ∧ (v ≤ fi ∨ (0 < ht ∧ v ≤ ht + ga)))) := Lib.hid (fun v => by unfold Bt3; omega)
            have HT0 : Hid (∀ q' : Bool, decide (∀ k, k < n → ¬ (sd k = true ∧ Bt3 (hg k) (ht + 1) (fi))) = q' → q' = q) := Lib.hid (fun q' hq' => by
              rw [← hq', ← HQ2.out, Bool.eq_iff_iff]
              simp only [decide_eq_true_eq]
              refine ⟨fun h => ⟨hb, fun _ => by omega, fun k hk hx => h k hk ⟨hx.1, (HN.out _).2 hx.2⟩⟩, fun h k hk hx => h.2.2 k hk ⟨hx.1, (HN.out _).1 hx.2⟩⟩)
            clear HQ2 hb
            go_wp2_with fail
            refine calls_after (HV.out _ (by (repeat' (first | (with_reducible exact Below.refl _ _) | (with_reducible assumption) | (with_reducible refine Below.alloc ?_ ?_ _) | (with_reducible refine Below.drew ?_) | (with_reducible refine below_drewN ?_ _) | (with_reducible refine Below.setCell ?_ ?_ _) | (with_reducible refine below_after ?_ ?_ _) | (with_reducible refine below_set ?_) | (with_reducible refine After.size_le _ ?_) | (with_reducible refine size_alloc_le ?_) | (with_reducible refine size_set_le ?_) | (with_reducible refine size_drewN_le ?_) | go_size)))) ?_
            intro x1
            go_wp2_with fail
            refine calls_after2 (HB.out _) ?_
            intro x2
            have HB2 : Hid (Below w.heap.size w x2.w) := Lib.hid (by (repeat' (first | (with_reducible exact Below.refl _ _) | (with_reducible assumption) | (with_reducible refine Below.alloc ?_ ?_ _) | (with_reducible refine Below.drew ?_) | (with_reducible refine below_drewN ?_ _) | (with_reducible refine Below.setCell ?_ ?_ _) | (with_reducible refine below_after ?_ ?_ _) | (with_reducible refine below_set ?_) | (with_reducible refine After.size_le _ ?_) | (with_reducible refine size_alloc_le ?_) | (with_reducible refine size_set_le ?_) | (with_reducible refine size_drewN_le ?_) | go_size)))
            have HA2 := Lib.hid (HA.out.on HB2.out)
            clear HV HB x1 HN
            go_wp2
            go_loopw [45] (fun i W => ∃ k : Nat, k ≤ n ∧ i = .int .i64 k ∧ Hid (∀ j, j < k → ¬ (sd j = true ∧ Bt3 (hg j) (ht + 1) (fi))) ∧ ∃ x : After x2.w, W = x.w) (fun i _ => n - (intOf i).toNat)
            case atStart => exact ⟨0, Nat.zero_le _, rfl, Lib.hid (fun j hj => absurd hj (by omega)), ⟨x2.w, Below.refl _ _⟩, rfl⟩
            case round =>
              obtain ⟨k, hk, rfl, HT, x, rfl⟩ := hrel
              by_cases hlt : k < n
              · have hlti : (k : Int) < (n : Int) := by omega
                obtain ⟨b, off, rfl, hbb, c0, c1⟩ := HA2.out k hlt
                have HF : Hid ((sd k = true ∧ Bt3 (hg k) (ht + 1) (fi)) → false = q) := Lib.hid (fun h => HT0.out false (decide_eq_false fun h2 => h2 k hlt h))
                have HG : Hid (¬ (sd k = true ∧ Bt3 (hg k) (ht + 1) (fi)) → ∀ j, j < k + 1 → ¬ (sd j = true ∧ Bt3 (hg j) (ht + 1) (fi))) := Lib.hid (fun h j hj => by
                  by_cases e : j = k
                  · subst e; exact h
                  · exact HT.out j (by omega))
                generalize hg k = v at *
                cases hsd : sd k
                · have HV := Lib.hid (HG.out (fun h => by rw [hsd] at h; cases h.1))
                  rw [hsd] at c1
                  clear hsd HF HG HT
                  go_wp2
                  go_roundw
                  case rel => exact ⟨k + 1, by omega, by go_num, HV, ⟨_, x.out.alloc x.out.size _⟩, rfl⟩
                  case measure => simp [intOf]; omega
                · rw [hsd] at c1
                  cases hbt : decide (Bt3 v (ht + 1) (fi))
                  · have HV := Lib.hid (HG.out (fun h => absurd h.2 (of_decide_eq_false hbt)))
                    have HBt := Lib.hid (fun W => between3_b v (ht + 1) (fi) W hbt)
                    clear hsd HF HG HT hbt
                    go_wp2_with (first | (go_at_call 47; refine (HBt.out _).mono ?_; rintro e w' ⟨rfl, rfl⟩))
                    go_roundw
                    case rel => exact ⟨k + 1, by omega, by go_num, HV, ⟨_, x.out.alloc x.out.size _⟩, rfl⟩
                    case measure => simp [intOf]; omega
                  · have HV := Lib.hid (HF.out ⟨hsd, of_decide_eq_true hbt⟩)
                    have HBt := Lib.hid (fun W => between3_b v (ht + 1) (fi) W hbt)
                    clear hsd HF HG HT hbt
                    go_wp2_with (first | (go_at_call 47; refine (HBt.out _).mono ?_; rintro e w' ⟨rfl, rfl⟩))
                    go_returns
                    exact ⟨by rw [← HV.out]; rfl, HB2.out.trans ((x.out.alloc x.out.size _).mono HB2.out.size)⟩
              · obtain rfl : k = n := by omega
                have HV := Lib.hid (HT0.out true (decide_eq_true HT.out))
                go_wp2
                go_returns
                exact ⟨by rw [← HV.out]; rfl, HB2.out.trans (x.out.mono HB2.out.size)⟩
      · have HN : Hid (∀ v, Bt3 v (ht + 1) (fi) ↔ (ht < v ∧ (v ≤ fi ∨ (0 < ht ∧ v ≤ ht + ga)))) := Lib.hid (fun v => by unfold Bt3; omega)
        have HT0 : Hid (∀ q' : Bool, decide (∀ k, k < n → ¬ (sd k = true ∧ Bt3 (hg k) (ht + 1) (fi))) = q' → q' = q) := Lib.hid (fun q' hq' => by
          rw [← hq', ← HQ2.out, Bool.eq_iff_iff]
          simp only [decide_eq_true_eq]
          refine ⟨fun h => ⟨hb, fun _ => by omega, fun k hk hx => h k hk ⟨hx.1, (HN.out _).2 hx.2⟩⟩, fun h k hk hx => h.2.2 k hk ⟨hx.1, (HN.out _).1 hx.2⟩⟩)
        clear HQ2 hb
        go_wp2_with fail
        refine calls_after (HV.out _ (by (repeat' (first | (with_reducible exact Below.refl _ _) | (with_reducible assumption) | (with_reducible refine Below.alloc ?_ ?_ _) | (with_reducible refine Below.drew ?_) | (with_reducible refine below_drewN ?_ _) | (with_reducible refine Below.setCell ?_ ?_ _) | (with_reducible refine below_after ?_ ?_ _) | (with_reducible refine below_set ?_) | (with_reducible refine After.size_le _ ?_) | (with_reducible refine size_alloc_le ?_) | (with_reducible refine size_set_le ?_) | (with_reducible refine size_drewN_le ?_) | go_size)))) ?_
        intro x1
        go_wp2_with fail
        refine calls_after2 (HB.out _) ?_
        intro x2
        have HB2 : Hid (Below w.heap.size w x2.w) := Lib.hid (by (repeat' (first | (with_reducible exact Below.refl _ _) | (with_reducible assumption) | (with_reducible refine Below.alloc ?_ ?_ _) | (with_reducible refine Below.drew ?_) | (with_reducible refine below_drewN ?_ _) | (with_reducible refine Below.setCell ?_ ?_ _) | (with_reducible refine below_after ?_ ?_ _) | (with_reducible refine below_set ?_) | (with_reducible refine After.size_le _ ?_) | (with_reducible refine size_alloc_le ?_) | (with_reducible refine size_set_le ?_) | (with_reducible refine size_drewN_le ?_) | go_size)))
        have HA2 := Lib.hid (HA.out.on HB2.out)
        clear HV HB x1 HN
        go_wp2
        go_loopw [45] (fun i W => ∃ k : Nat, k ≤ n ∧ i = .int .i64 k ∧ Hid (∀ j, j < k → ¬ (sd j = true ∧ Bt3 (hg j) (ht + 1) (fi))) ∧ ∃ x : After x2.w, W = x.w) (fun i _ => n - (intOf i).toNat)
        case atStart => exact ⟨0, Nat.zero_le _, rfl, Lib.hid (fun j hj => absurd hj (by omega)), ⟨x2.w, Below.refl _ _⟩, rfl⟩
        case round =>
          obtain ⟨k, hk, rfl, HT, x, rfl⟩ := hrel
          by_cases hlt : k < n
          · have hlti : (k : Int) < (n : Int) := by omega
            obtain ⟨b, off, rfl, hbb, c0, c1⟩ := HA2.out k hlt
            have HF : Hid ((sd k = true ∧ Bt3 (hg k) (ht + 1) (fi)) → false = q) := Lib.hid (fun h => HT0.out false (decide_eq_false fun h2 => h2 k hlt h))
            have HG : Hid (¬ (sd k = true ∧ Bt3 (hg k) (ht + 1) (fi)) → ∀ j, j < k + 1 → ¬ (sd j = true ∧ Bt3 (hg j) (ht + 1) (fi))) := Lib.hid (fun h j hj => by
              by_cases e : j = k
              · subst e; exact h
              · exact HT.out j (by omega))
            generalize hg k = v at *
            cases hsd : sd k
            · have HV := Lib.hid (HG.out (fun h => by rw [hsd] at h; cases h.1))
              rw [hsd] at c1
              clear hsd HF HG HT
              go_wp2
              go_roundw
              case rel => exact ⟨k + 1, by omega, by go_num, HV, ⟨_, x.out.alloc x.out.size _⟩, rfl⟩
              case measure => simp [intOf]; omega
            · rw [hsd] at c1
              cases hbt : decide (Bt3 v (ht + 1) (fi))
              · have HV := Lib.hid (HG.out (fun h => absurd h.2 (of_decide_eq_false hbt)))
                have HBt := Lib.hid (fun W => between3_b v (ht + 1) (fi) W hbt)
                clear hsd HF HG HT hbt
                go_wp2_with (first | (go_at_call 47; refine (HBt.out _).mono ?_; rintro e w' ⟨rfl, rfl⟩))
                go_roundw
                case rel => exact ⟨k + 1, by omega, by go_num, HV, ⟨_, x.out.alloc x.out.size _⟩, rfl⟩
                case measure => simp [intOf]; omega
              · have HV := Lib.hid (HF.out ⟨hsd, of_decide_eq_true hbt⟩)
                have HBt := Lib.hid (fun W => between3_b v (ht + 1) (fi) W hbt)
                clear hsd HF HG HT hbt
                go_wp2_with (first | (go_at_call 47; refine (HBt.out _).mono ?_; rintro e w' ⟨rfl, rfl⟩))
                go_returns
                exact ⟨by rw [← HV.out]; rfl, HB2.out.trans ((x.out.alloc x.out.size _).mono HB2.out.size)⟩
          · obtain rfl : k = n := by omega
            have HV := Lib.hid (HT0.out true (decide_eq_true HT.out))
            go_wp2
            go_returns
            exact ⟨by rw [← HV.out]; rfl, HB2.out.trans (x.out.mono HB2.out.size)⟩
    · have HB := Lib.hid (fun W => between_after ht 0 200000 W (decide_eq_false hb))
      have HQ3 : Hid (false = q) := Lib.hid (by rw [← HQ.out]; exact (decide_eq_false fun h => hb h.2.1).symm)
      clear HQ hd hv hb
      go_enter Try.func28, Try.ntmps28
      go_wp2_with fail
      refine calls_after (HV.out _ (by (repeat' (first | (with_reducible exact Below.refl _ _) | (with_reducible assumption) | (with_reducible refine Below.alloc ?_ ?_ _) | (with_reducible refine Below.drew ?_) | (with_reducible refine below_drewN ?_ _) | (with_reducible refine Below.setCell ?_ ?_ _) | (with_reducible refine below_after ?_ ?_ _) | (with_reducible refine below_set ?_) | (with_reducible refine After.size_le _ ?_) | (with_reducible refine size_alloc_le ?_) | (with_reducible refine size_set_le ?_) | (with_reducible refine size_drewN_le ?_) | go_size)))) ?_
      intro x1
      go_wp2_with fail
      refine calls_after2 (HB.out _) ?_
      intro x2
      go_wp2
      go_returns
      exact ⟨by rw [← HQ3.out]; rfl, by (repeat' (first | (with_reducible exact Below.refl _ _) | (with_reducible assumption) | (with_reducible refine Below.alloc ?_ ?_ _) | (with_reducible refine Below.drew ?_) | (with_reducible refine below_drewN ?_ _) | (with_reducible refine Below.setCell ?_ ?_ _) | (with_reducible refine below_after ?_ ?_ _) | (with_reducible refine below_set ?_) | (with_reducible refine After.size_le _ ?_) | (with_reducible refine size_alloc_le ?_) | (with_reducible refine size_set_le ?_) | (with_reducible refine size_drewN_le ?_) | go_size))⟩
  · have hd : (decide (VcP fi ga tp le lp sg) && decide (VjP n hg)) = false := by
      rw [← Bool.not_eq_true, Bool.and_eq_true, decide_eq_true_eq, decide_eq_true_eq]; exact hv
    rw [hd] at HV
    have HQ3 : Hid (false = q) := Lib.hid (by rw [← HQ.out]; exact (decide_eq_false fun h => hv h.1).symm)
    clear HQ hd hv
    go_enter Try.func28, Try.ntmps28
    go_wp2_with fail
    refine calls_after (HV.out _ (by (repeat' (first | (with_reducible exact Below.refl _ _) | (with_reducible assumption) | (with_reducible refine Below.alloc ?_ ?_ _) | (with_reducible refine Below.drew ?_) | (with_reducible refine below_drewN ?_ _) | (with_reducible refine Below.setCell ?_ ?_ _) | (with_reducible refine below_after ?_ ?_ _) | (with_reducible refine below_set ?_) | (with_reducible refine After.size_le _ ?_) | (with_reducible refine size_alloc_le ?_) | (with_reducible refine size_set_le ?_) | (with_reducible refine size_drewN_le ?_) | go_size)))) ?_
    intro x1
    go_wp2
    go_returns
    exact ⟨by rw [← HQ3.out]; rfl, by (repeat' (first | (with_reducible exact Below.refl _ _) | (with_reducible assumption) | (with_reducible refine Below.alloc ?_ ?_ _) | (with_reducible refine Below.drew ?_) | (with_reducible refine below_drewN ?_ _) | (with_reducible refine Below.setCell ?_ ?_ _) | (with_reducible refine below_after ?_ ?_ _) | (with_reducible refine below_set ?_) | (with_reducible refine After.size_le _ ?_) | (with_reducible refine size_alloc_le ?_) | (with_reducible refine size_set_le ?_) | (with_reducible refine size_drewN_le ?_) | go_size))⟩
end Go.Proofs.Ytbjdojcenflliaa
