/- Highest in both programs. -/
import Derived.Test.YtlnlgboeohfpdaaDoorWdp
namespace Go.Proofs.YtlnlgboeohfpdaaDoor
open Go.RowKit

/-- The greatest of some gusts, or -1. -/
def hiF (f : Nat → Int) (p : Nat) : Nat → Int
  | 0 => -1
  | d + 1 => if hiF f p d < f (p + d) then f (p + d) else hiF f p d
theorem hiF_bd {n : Nat} {f : Nat → Int} (h : GoodG n f) (p : Nat) : ∀ d, p + d ≤ n → -1 ≤ hiF f p d ∧ hiF f p d ≤ 200
  | 0, _ => by simp [hiF]
  | d + 1, hd => by
    have h1 := hiF_bd h p d (by omega)
    have h2 := h.2 (p + d) (by omega)
    unfold OkG Btw at h2
    simp only [hiF]
    split <;> omega
/-- What Highest finds and answers. -/
def hgV (n : Nat) (f : Nat → Int) (fr to : Int) : Int := if decide (GoodG n f) && decide (Wth fr to n) then hiF f fr.toNat (to.toNat - fr.toNat) else -1
def hgN (n : Nat) (f : Nat → Int) (fr to : Int) : Int := if hgV n f fr to = -1 then 0 else hgV n f fr to
def hgE (n : Nat) (f : Nat → Int) (fr to : Int) : Int := if decide (GoodG n f) then (if Wth fr to n then (if hgV n f fr to = -1 then 8 else 0) else 7) else 1
section
attribute [local go_sem] After.cell After.frozen After.lt After.le After.ne After.ne' After.set_eq After.size_set After.lt_add
set_option maxRecDepth 100000 in
set_option maxHeartbeats 1000000 in
theorem highest_say (a : Option Addr) (n cap : Nat) (f : Nat → Int) (fr to : Int) (w : World) (hA : IAt w a n f) (hnc : n ≤ cap) :
    Calls Tryd.prog 31 #[.slice a n cap, .int .i64 fr, .int .i64 to] w fun e w' => e = .returned (.tuple #[.int .i64 (hgN n f fr to), .int .i64 (hgE n f fr to)]) ∧ Below w.heap.size w w' := by
  have HV := Lib.hid (validGusts_any a n cap f w hA)
  have HA := Lib.hid hA
  cases hk : decide (GoodG n f)
  · rw [hk] at HV
    unfold hgN hgE hgV
    rw [hk]
    go_enter Tryd.func31, Tryd.ntmps31
    go_wp2_with fail
    refine calls_after HV.out ?_
    intro x1
    go_wp2
    go_returns
    exact ⟨rfl, by (repeat' (first | (with_reducible exact Below.refl _ _) | (with_reducible assumption) | (with_reducible refine Below.alloc ?_ ?_ _) | (with_reducible refine Below.drew ?_) | (with_reducible refine below_drewN ?_ _) | (with_reducible refine Below.setCell ?_ ?_ _) | (with_reducible refine below_after ?_ ?_ _) | (with_reducible refine below_set ?_) | (with_reducible refine After.size_le _ ?_) | (with_reducible refine size_alloc_le ?_) | (with_reducible refine size_set_le ?_) | (with_reducible refine size_drewN_le ?_) | go_size))⟩
  · have hG := of_decide_eq_true hk
    have hn := hG.1
    have hnI : (n : Int) ≤ 2000 := by omega
    rw [hk] at HV
    by_cases hb : Wth fr to n
    · have HB := Lib.hid (fun W => within_b fr to n W (decide_eq_true hb))
      have eV : hgV n f fr to = hiF f fr.toNat (to.toNat - fr.toNat) := by unfold hgV; rw [hk, decide_eq_true hb]; rfl
      have eE : hgE n f fr to = if hgV n f fr to = -1 then 8 else 0 := by unfold hgE; rw [hk, if_pos rfl, if_pos hb]
      have eN : hgN n f fr to = if hgV n f fr to = -1 then 0 else hgV n f fr to := rfl
      rw [eE, eN]
      clear eE eN
      generalize hgV n f fr to = V at *
      obtain ⟨N0, hN⟩ : ∃ N0, (if V = -1 then 0 else V) = N0 := ⟨_, rfl⟩
      obtain ⟨E0, hE⟩ : ∃ E0 : Int, (if V = -1 then 8 else 0) = E0 := ⟨_, rfl⟩
      rw [hN, hE]
      have HN := Lib.hid hN
      have HE := Lib.hid hE
      clear hN hE
      obtain ⟨b1, b2, b3⟩ := hb
      obtain ⟨p, rfl⟩ : ∃ p : Nat, fr = p := ⟨fr.toNat, by omega⟩
      obtain ⟨q, rfl⟩ : ∃ q : Nat, to = q := ⟨to.toNat, by omega⟩
      simp only [Int.toNat_natCast] at eV
      have hpq : p ≤ q := by omega
      have hqn : q ≤ n := by omega
      have hqc : (q : Int) ≤ (cap : Int) := by omega
      have HD := Lib.hid (hiF_bd hG p)
      clear hG hk
      rcases Nat.lt_or_ge p q with hlt | hge
      · obtain ⟨bb, off, rfl, hbb, _⟩ := hA 0 (by omega)
        have hne : ¬ cap = p := by omega
        obtain ⟨d, rfl⟩ : ∃ d, q = p + d := ⟨q - p, by omega⟩
        have hdd : p + d - p = d := by omega
        rw [hdd] at eV
        have EV := Lib.hid eV
        clear eV
        go_enter Tryd.func31, Tryd.ntmps31
        go_wp2_with fail
        refine calls_after HV.out ?_
        intro x1
        have hB1 := Lib.hid x1.out
        go_wp2_with (go_at_call 61; refine (HB.out _).mono ?_; rintro e w1 ⟨rfl, rfl⟩)
        go_loop [8, 10, 27] (fun m _ i => ∃ k : Nat, k ≤ d ∧ i = .int .i64 k ∧ m = .int .i64 (hiF f p k)) (fun _ _ i => d - (intOf i).toNat)
        case atStart => exact ⟨0, by omega, rfl, rfl⟩
        case round =>
          obtain ⟨k, hkk, rfl, rfl⟩ := hrel
          by_cases hlt : k < d
          · have hlti : (k : Int) < (d : Int) := by omega
            obtain ⟨b', off', e', hb', hc⟩ := HA.out (p + k) (by omega)
            cases e'
            have hcr := (hB1.out.cell (p := ⟨bb, off + (p + k), none⟩) hb').trans hc
            rw [← Nat.add_assoc] at hcr
            have HF := Lib.hid (show hiF f p (k + 1) = if hiF f p k < f (p + k) then f (p + k) else hiF f p k from rfl)
            generalize hiF f p k = m at *
            generalize f (p + k) = x at *
            by_cases hx : m < x
            · go_wp2
              go_round
              case rel => exact ⟨k + 1, by omega, by go_num, by rw [HF.out, if_pos hx]⟩
              case measure => simp [intOf]; omega
            · go_wp2
              go_round
              case rel => exact ⟨k + 1, by omega, by go_num, by rw [HF.out, if_neg hx]⟩
              case measure => simp [intOf]; omega
          · obtain rfl : k = d := by omega
            have EVm := EV.out
            generalize hiF f p k = m at *
            by_cases hm : m = -1
            · subst hm
              go_wp2
              go_returns
              exact ⟨by (rw [← HN.out, ← HE.out, if_pos EVm, if_pos EVm]; try rfl), hB1.out⟩
            · have EN : V = -1 → False := fun h => hm (by rw [← EVm, h])
              go_wp2
              go_returns
              exact ⟨by (rw [← HN.out, ← HE.out, if_neg EN, if_neg EN, EVm]; try rfl), hB1.out⟩
      · obtain rfl : p = q := by omega
        rw [Nat.sub_self] at eV
        have EV : Hid (V = -1) := Lib.hid eV
        clear eV
        rcases Decidable.em (cap = p) with rfl | hne
        all_goals (
          go_enter Tryd.func31, Tryd.ntmps31
          go_wp2_with fail
          refine calls_after HV.out ?_
          intro x1
          have hB1 := Lib.hid x1.out
          go_wp2_with (go_at_call 61; refine (HB.out _).mono ?_; rintro e w1 ⟨rfl, rfl⟩)
          go_loop [8, 10, 27] (fun m _ i => ∃ k : Nat, k = 0 ∧ i = .int .i64 k ∧ m = .int .i64 (-1)) (fun _ _ _ => 0)
          case atStart => exact ⟨0, rfl, rfl, rfl⟩
          case round =>
            obtain ⟨k, rfl, rfl, rfl⟩ := hrel
            go_wp2
            go_returns
            exact ⟨by (rw [← HN.out, ← HE.out, if_pos EV.out, if_pos EV.out]; try rfl), hB1.out⟩)
    · have HB := Lib.hid (fun W => within_b fr to n W (decide_eq_false hb))
      have eN : hgN n f fr to = 0 := by unfold hgN hgV; rw [hk, decide_eq_false hb]; rfl
      have eE : hgE n f fr to = 7 := by unfold hgE; rw [hk, if_pos rfl, if_neg hb]
      rw [eN, eE]
      clear hb eN eE hk hG
      go_enter Tryd.func31, Tryd.ntmps31
      go_wp2_with fail
      refine calls_after HV.out ?_
      intro x1
      go_wp2_with (go_at_call 61; refine (HB.out _).mono ?_; rintro e w1 ⟨rfl, rfl⟩)
      go_returns
      exact ⟨rfl, by (repeat' (first | (with_reducible exact Below.refl _ _) | (with_reducible assumption) | (with_reducible refine Below.alloc ?_ ?_ _) | (with_reducible refine Below.drew ?_) | (with_reducible refine below_drewN ?_ _) | (with_reducible refine Below.setCell ?_ ?_ _) | (with_reducible refine below_after ?_ ?_ _) | (with_reducible refine below_set ?_) | (with_reducible refine After.size_le _ ?_) | (with_reducible refine size_alloc_le ?_) | (with_reducible refine size_set_le ?_) | (with_reducible refine size_drewN_le ?_) | go_size))⟩
set_option maxRecDepth 100000 in
set_option maxHeartbeats 1000000 in
theorem rhighest_say (a : Option Addr) (n cap : Nat) (f : Nat → Int) (fr to : Int) (w : World) (hA : IAt w a n f) (hcap : n ≤ 9223372036854775807) :
    Calls Tryd.prog 32 #[.slice a n cap, .int .i64 fr, .int .i64 to] w fun e w' => e = .returned (.tuple #[.int .i64 (hgN n f fr to), .int .i64 (hgE n f fr to)]) ∧ Below w.heap.size w w' := by
  have HV := Lib.hid (rvalidGusts_any a n cap f w hA hcap)
  have HA := Lib.hid hA
  cases hk : decide (GoodG n f)
  · rw [hk] at HV
    unfold hgN hgE hgV
    rw [hk]
    go_enter Tryd.func32, Tryd.ntmps32
    go_wp2_with fail
    refine calls_after HV.out ?_
    intro x1
    go_wp2
    go_returns
    exact ⟨rfl, by (repeat' (first | (with_reducible exact Below.refl _ _) | (with_reducible assumption) | (with_reducible refine Below.alloc ?_ ?_ _) | (with_reducible refine Below.drew ?_) | (with_reducible refine below_drewN ?_ _) | (with_reducible refine Below.setCell ?_ ?_ _) | (with_reducible refine below_after ?_ ?_ _) | (with_reducible refine below_set ?_) | (with_reducible refine After.size_le _ ?_) | (with_reducible refine size_alloc_le ?_) | (with_reducible refine size_set_le ?_) | (with_reducible refine size_drewN_le ?_) | go_size))⟩
  · have hG := of_decide_eq_true hk
    have hn := hG.1
    have hnI : (n : Int) ≤ 2000 := by omega
    rw [hk] at HV
    by_cases hb : Wth fr to n
    · have H1 := Lib.hid (fun W => rwithin_b to 0 n W (decide_eq_true (by unfold Wth at hb; unfold Btw; omega)))
      have H2 := Lib.hid (fun W => rwithin_b fr 0 to W (decide_eq_true (by unfold Wth at hb; unfold Btw; omega)))
      have eV : hgV n f fr to = hiF f fr.toNat (to.toNat - fr.toNat) := by unfold hgV; rw [hk, decide_eq_true hb]; rfl
      have eE : hgE n f fr to = if hgV n f fr to = -1 then 8 else 0 := by unfold hgE; rw [hk, if_pos rfl, if_pos hb]
      have eN : hgN n f fr to = if hgV n f fr to = -1 then 0 else hgV n f fr to := rfl
      rw [eE, eN]
      clear eE eN
      generalize hgV n f fr to = V at *
      obtain ⟨N0, hN⟩ : ∃ N0, (if V = -1 then 0 else V) = N0 := ⟨_, rfl⟩
      obtain ⟨E0, hE⟩ : ∃ E0 : Int, (if V = -1 then 8 else 0) = E0 := ⟨_, rfl⟩
      rw [hN, hE]
      have HN := Lib.hid hN
      have HE := Lib.hid hE
      clear hN hE
      obtain ⟨b1, b2, b3⟩ := hb
      obtain ⟨p, rfl⟩ : ∃ p : Nat, fr = p := ⟨fr.toNat, by omega⟩
      obtain ⟨d, rfl⟩ : ∃ d : Nat, to = ((p + d : Nat) : Int) := ⟨to.toNat - p, by omega⟩
      simp only [Int.toNat_natCast] at eV
      have hqn : p + d ≤ n := by omega
      have hqi : ((p + d : Nat) : Int) ≤ 2000 := by omega
      have HD := Lib.hid (hiF_bd hG p)
      have hdd : p + d - p = d := by omega
      rw [hdd] at eV
      have EV := Lib.hid eV
      clear eV hG hk
      generalize hq : p + d = q at *
      go_enter Tryd.func32, Tryd.ntmps32
      go_wp2_with fail
      refine calls_after HV.out ?_
      intro x1
      have hB1 := Lib.hid x1.out
      go_wp2_with (go_at_call 59; (first | (with_reducible refine (H1.out _).mono ?_) | (with_reducible refine (H2.out _).mono ?_)); rintro e w1 ⟨rfl, rfl⟩)
      go_loop [8, 9] (fun m i => ∃ k : Nat, k ≤ d ∧ i = .int .i64 ((p + k : Nat) : Int) ∧ m = .int .i64 (hiF f p k)) (fun _ i => q - (intOf i).toNat)
      case atStart => exact ⟨0, by omega, rfl, rfl⟩
      case round =>
        obtain ⟨k, hkk, rfl, rfl⟩ := hrel
        by_cases hlt : k < d
        · obtain ⟨b', off', rfl, hb', hc⟩ := HA.out (p + k) (by omega)
          have hcr := (hB1.out.cell (p := ⟨b', off' + (p + k), none⟩) hb').trans hc
          have HF := Lib.hid (show hiF f p (k + 1) = if hiF f p k < f (p + k) then f (p + k) else hiF f p k from rfl)
          have hpk : p + (k + 1) = p + k + 1 := by omega
          have hpn : p + k < n := by omega
          have hpi : ((p + k : Nat) : Int) < (q : Int) := by omega
          generalize hiF f p k = m at *
          generalize f (p + k) = x at *
          generalize p + k = i at *
          by_cases hx : m < x
          · go_wp2
            go_round
            case rel => exact ⟨k + 1, by omega, by rw [hpk]; go_num, by rw [HF.out, if_pos hx]⟩
            case measure => simp [intOf]; omega
          · go_wp2
            go_round
            case rel => exact ⟨k + 1, by omega, by rw [hpk]; go_num, by rw [HF.out, if_neg hx]⟩
            case measure => simp [intOf]; omega
        · obtain rfl : k = d := by omega
          have hm1 := (HD.out k (by omega)).1
          have EVm := EV.out
          generalize hiF f p k = m at *
          by_cases hm : m = -1
          · subst hm
            go_wp2
            go_returns
            exact ⟨by (rw [← HN.out, ← HE.out, if_pos EVm, if_pos EVm]; try rfl), hB1.out⟩
          · have EN : V = -1 → False := fun h => hm (by rw [← EVm, h])
            have hm0 : ¬ m < 0 := by omega
            go_wp2
            go_returns
            exact ⟨by (rw [← HN.out, ← HE.out, if_neg EN, if_neg EN, EVm]; try rfl), hB1.out⟩
    · by_cases h1 : Btw to 0 n
      · have H1 := Lib.hid (fun W => rwithin_b to 0 n W (decide_eq_true h1))
        have H2 := Lib.hid (fun W => rwithin_b fr 0 to W (decide_eq_false (by unfold Wth at hb; unfold Btw at *; omega)))
        have eN : hgN n f fr to = 0 := by unfold hgN hgV; rw [hk, decide_eq_false hb]; rfl
        have eE : hgE n f fr to = 7 := by unfold hgE; rw [hk, if_pos rfl, if_neg hb]
        rw [eN, eE]
        clear hb eN eE hk hG h1
        go_enter Tryd.func32, Tryd.ntmps32
        go_wp2_with fail
        refine calls_after HV.out ?_
        intro x1
        go_wp2_with (go_at_call 59; (first | (with_reducible refine (H1.out _).mono ?_) | (with_reducible refine (H2.out _).mono ?_)); rintro e w1 ⟨rfl, rfl⟩)
        go_returns
        exact ⟨rfl, by (repeat' (first | (with_reducible exact Below.refl _ _) | (with_reducible assumption) | (with_reducible refine Below.alloc ?_ ?_ _) | (with_reducible refine Below.drew ?_) | (with_reducible refine below_drewN ?_ _) | (with_reducible refine Below.setCell ?_ ?_ _) | (with_reducible refine below_after ?_ ?_ _) | (with_reducible refine below_set ?_) | (with_reducible refine After.size_le _ ?_) | (with_reducible refine size_alloc_le ?_) | (with_reducible refine size_set_le ?_) | (with_reducible refine size_drewN_le ?_) | go_size))⟩
      · have H1 := Lib.hid (fun W => rwithin_b to 0 n W (decide_eq_false h1))
        have eN : hgN n f fr to = 0 := by unfold hgN hgV; rw [hk, decide_eq_false hb]; rfl
        have eE : hgE n f fr to = 7 := by unfold hgE; rw [hk, if_pos rfl, if_neg hb]
        rw [eN, eE]
        clear hb eN eE hk hG h1
        go_enter Tryd.func32, Tryd.ntmps32
        go_wp2_with fail
        refine calls_after HV.out ?_
        intro x1
        go_wp2_with (go_at_call 59; refine (H1.out _).mono ?_; rintro e w1 ⟨rfl, rfl⟩)
        go_returns
        exact ⟨rfl, by (repeat' (first | (with_reducible exact Below.refl _ _) | (with_reducible assumption) | (with_reducible refine Below.alloc ?_ ?_ _) | (with_reducible refine Below.drew ?_) | (with_reducible refine below_drewN ?_ _) | (with_reducible refine Below.setCell ?_ ?_ _) | (with_reducible refine below_after ?_ ?_ _) | (with_reducible refine below_set ?_) | (with_reducible refine After.size_le _ ?_) | (with_reducible refine size_alloc_le ?_) | (with_reducible refine size_set_le ?_) | (with_reducible refine size_drewN_le ?_) | go_size))⟩
end
end Go.Proofs.YtlnlgboeohfpdaaDoor
