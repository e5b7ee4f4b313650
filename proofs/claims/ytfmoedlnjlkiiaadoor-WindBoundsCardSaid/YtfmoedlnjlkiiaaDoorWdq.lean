/- Minutes and Resumes, in both programs. -/
import Derived.Test.YtfmoedlnjlkiiaaDoorWdp
namespace Go.Proofs.YtfmoedlnjlkiiaaDoor
open Go.RowKit

section
attribute [local go_sem] After.cell After.frozen After.lt After.le After.ne After.ne' After.set_eq After.size_set After.lt_add

/-- What Minutes answers. -/
def miE (s g c : Int) (n : Nat) (f : Nat → Int) (fr to : Int) : Int := if AskB s g c n f then (if Wth fr to n then 0 else 7) else 1
def miN (s g c : Int) (n : Nat) (f : Nat → Int) (fr to : Int) : Nat := if AskB s g c n f && decide (Wth fr to n) then cN (fl (gW s g c f) n) fr to else 0
set_option maxRecDepth 100000 in
set_option maxHeartbeats 1000000 in
theorem minutes_say (s g c : Int) (a : Option Addr) (n cap : Nat) (f : Nat → Int) (fr to : Int) (w : World) (hA : IAt w a n f) :
    Calls Tryd.prog 21 #[.agg #[.int .i64 s, .int .i64 g, .int .i64 c], .slice a n cap, .int .i64 fr, .int .i64 to] w fun e w' => e = .returned (.tuple #[.int .i64 (miN s g c n f fr to : Nat), .int .i64 (miE s g c n f fr to)]) ∧ Below w.heap.size w w' := by
  have HV := Lib.hid (fun W (hW : Below w.heap.size w W) => valid_any s g c a n cap f W (hA.on hW))
  have HA := Lib.hid hA
  unfold waV at HV
  unfold miE miN
  cases hk : AskB s g c n f
  · rw [hk] at HV
    go_enter Tryd.func21, Tryd.ntmps21
    go_wp2_with fail
    refine calls_after (HV.out _ (by (repeat' (first | (with_reducible exact Below.refl _ _) | (with_reducible assumption) | (with_reducible refine Below.alloc ?_ ?_ _) | (with_reducible refine Below.drew ?_) | (with_reducible refine below_drewN ?_ _) | (with_reducible refine Below.setCell ?_ ?_ _) | (with_reducible refine below_after ?_ ?_ _) | (with_reducible refine below_set ?_) | (with_reducible refine After.size_le _ ?_) | (with_reducible refine size_alloc_le ?_) | (with_reducible refine size_set_le ?_) | (with_reducible refine size_drewN_le ?_) | go_size)))) ?_
    intro x1
    go_wp2
    go_returns
    exact ⟨rfl, by (repeat' (first | (with_reducible exact Below.refl _ _) | (with_reducible assumption) | (with_reducible refine Below.alloc ?_ ?_ _) | (with_reducible refine Below.drew ?_) | (with_reducible refine below_drewN ?_ _) | (with_reducible refine Below.setCell ?_ ?_ _) | (with_reducible refine below_after ?_ ?_ _) | (with_reducible refine below_set ?_) | (with_reducible refine After.size_le _ ?_) | (with_reducible refine size_alloc_le ?_) | (with_reducible refine size_set_le ?_) | (with_reducible refine size_drewN_le ?_) | go_size))⟩
  · obtain ⟨hc, hn, hf⟩ := ask_c hk
    have hnI : (n : Int) ≤ 2000 := by omega
    rw [hk] at HV
    by_cases hb : Wth fr to n
    · have HB := Lib.hid (fun W => within_b fr to n W (decide_eq_true hb))
      rw [decide_eq_true hb]
      simp only [if_true, Bool.true_and, if_pos hb]
      have HC := Lib.hid (fun W (hW : Below w.heap.size w W) => count_any s g c a n cap f fr to W hc hn (hA.on hW) (by unfold Wth at hb; omega))
      rw [fl_eq (fun k _ => pW_true s g c f k)] at HC
      unfold waV at HC
      clear hb
      generalize cN (fl (gW s g c f) n) fr to = N at *
      go_enter Tryd.func21, Tryd.ntmps21
      go_wp2_with fail
      refine calls_after (HV.out _ (by (repeat' (first | (with_reducible exact Below.refl _ _) | (with_reducible assumption) | (with_reducible refine Below.alloc ?_ ?_ _) | (with_reducible refine Below.drew ?_) | (with_reducible refine below_drewN ?_ _) | (with_reducible refine Below.setCell ?_ ?_ _) | (with_reducible refine below_after ?_ ?_ _) | (with_reducible refine below_set ?_) | (with_reducible refine After.size_le _ ?_) | (with_reducible refine size_alloc_le ?_) | (with_reducible refine size_set_le ?_) | (with_reducible refine size_drewN_le ?_) | go_size)))) ?_
      intro x1
      go_wp2_with (go_at_call 61; refine (HB.out _).mono ?_; rintro e w1 ⟨rfl, rfl⟩)
      refine calls_after2 (HC.out _ (by (repeat' (first | (with_reducible exact Below.refl _ _) | (with_reducible assumption) | (with_reducible refine Below.alloc ?_ ?_ _) | (with_reducible refine Below.drew ?_) | (with_reducible refine below_drewN ?_ _) | (with_reducible refine Below.setCell ?_ ?_ _) | (with_reducible refine below_after ?_ ?_ _) | (with_reducible refine below_set ?_) | (with_reducible refine After.size_le _ ?_) | (with_reducible refine size_alloc_le ?_) | (with_reducible refine size_set_le ?_) | (with_reducible refine size_drewN_le ?_) | go_size)))) ?_
      intro x2
      go_wp2
      go_returns
      exact ⟨rfl, by (repeat' (first | (with_reducible exact Below.refl _ _) | (with_reducible assumption) | (with_reducible refine Below.alloc ?_ ?_ _) | (with_reducible refine Below.drew ?_) | (with_reducible refine below_drewN ?_ _) | (with_reducible refine Below.setCell ?_ ?_ _) | (with_reducible refine below_after ?_ ?_ _) | (with_reducible refine below_set ?_) | (with_reducible refine After.size_le _ ?_) | (with_reducible refine size_alloc_le ?_) | (with_reducible refine size_set_le ?_) | (with_reducible refine size_drewN_le ?_) | go_size))⟩
    · have HB := Lib.hid (fun W => within_b fr to n W (decide_eq_false hb))
      rw [decide_eq_false hb]
      simp only [if_true, Bool.and_false, if_neg hb]
      clear hb
      go_enter Tryd.func21, Tryd.ntmps21
      go_wp2_with fail
      refine calls_after (HV.out _ (by (repeat' (first | (with_reducible exact Below.refl _ _) | (with_reducible assumption) | (with_reducible refine Below.alloc ?_ ?_ _) | (with_reducible refine Below.drew ?_) | (with_reducible refine below_drewN ?_ _) | (with_reducible refine Below.setCell ?_ ?_ _) | (with_reducible refine below_after ?_ ?_ _) | (with_reducible refine below_set ?_) | (with_reducible refine After.size_le _ ?_) | (with_reducible refine size_alloc_le ?_) | (with_reducible refine size_set_le ?_) | (with_reducible refine size_drewN_le ?_) | go_size)))) ?_
      intro x1
      go_wp2_with (go_at_call 61; refine (HB.out _).mono ?_; rintro e w1 ⟨rfl, rfl⟩)
      go_returns
      exact ⟨rfl, by (repeat' (first | (with_reducible exact Below.refl _ _) | (with_reducible assumption) | (with_reducible refine Below.alloc ?_ ?_ _) | (with_reducible refine Below.drew ?_) | (with_reducible refine below_drewN ?_ _) | (with_reducible refine Below.setCell ?_ ?_ _) | (with_reducible refine below_after ?_ ?_ _) | (with_reducible refine below_set ?_) | (with_reducible refine After.size_le _ ?_) | (with_reducible refine size_alloc_le ?_) | (with_reducible refine size_set_le ?_) | (with_reducible refine size_drewN_le ?_) | go_size))⟩
set_option maxRecDepth 100000 in
set_option maxHeartbeats 1000000 in
theorem rminutes_any (s g c : Int) (a : Option Addr) (n cap : Nat) (f : Nat → Int) (fr to : Int) (w : World) (hA : IAt w a n f) (hc : 1 ≤ c ∧ c ≤ 1000) (hn : n ≤ 2000) (hf : ∀ k, k < n → -1 ≤ f k) (hb : Wth fr to n) :
    Calls Tryd.prog 62 #[.agg #[.int .i64 s, .int .i64 g, .int .i64 c], .slice a n cap, .int .i64 fr, .int .i64 to] w fun e w' => e = .returned (.int .i64 (cN (fl (gW s g c f) n) fr to : Nat)) ∧ Below w.heap.size w w' := by
  obtain ⟨b1, b2, b3⟩ := hb
  obtain ⟨p, rfl⟩ : ∃ p : Nat, fr = p := ⟨fr.toNat, by omega⟩
  obtain ⟨q, rfl⟩ : ∃ q : Nat, to = q := ⟨to.toNat, by omega⟩
  have HG := Lib.hid (fun W (hW : Below w.heap.size w W) => rgoing_any s g c a n cap f W (hA.on hW) hn hc hf)
  have hst : Hid (cN (fl (gW s g c f) n) (p : Int) q = cN (fl (gW s g c f) q) p q) := Lib.hid (by
    obtain ⟨d, rfl⟩ : ∃ d, n = q + d := ⟨n - q, by omega⟩
    exact cN_stop _ d q (by omega))
  have hqn : q ≤ n := by omega
  have hpq : p ≤ q := by omega
  have hqi : (q : Int) ≤ 2000 := by omega
  go_enter Tryd.func62, Tryd.ntmps62
  go_wp2_with fail
  refine (HG.out _ (by (repeat' (first | (with_reducible exact Below.refl _ _) | (with_reducible assumption) | (with_reducible refine Below.alloc ?_ ?_ _) | (with_reducible refine Below.drew ?_) | (with_reducible refine below_drewN ?_ _) | (with_reducible refine Below.setCell ?_ ?_ _) | (with_reducible refine below_after ?_ ?_ _) | (with_reducible refine below_set ?_) | (with_reducible refine After.size_le _ ?_) | (with_reducible refine size_alloc_le ?_) | (with_reducible refine size_set_le ?_) | (with_reducible refine size_drewN_le ?_) | go_size)))).mono ?_
  rintro e w2 ⟨⟨gg, rfl, hg⟩, hb2⟩
  have hB2 : Below w.heap.size w w2 := Below.trans (by (repeat' (first | (with_reducible exact Below.refl _ _) | (with_reducible assumption) | (with_reducible refine Below.alloc ?_ ?_ _) | (with_reducible refine Below.drew ?_) | (with_reducible refine below_drewN ?_ _) | (with_reducible refine Below.setCell ?_ ?_ _) | (with_reducible refine below_after ?_ ?_ _) | (with_reducible refine below_set ?_) | (with_reducible refine After.size_le _ ?_) | (with_reducible refine size_alloc_le ?_) | (with_reducible refine size_set_le ?_) | (with_reducible refine size_drewN_le ?_) | go_size))) (hb2.mono (by simp))
  have hcell : Hid (∀ k, k < n → w2.cell? ⟨gg, k, none⟩ = some (.bool (gW s g c f k))) := Lib.hid (fun k hk => by rw [hg.cellAt k (by omega), bxs_full _ _ hk])
  clear hg hb2 HG
  go_wp2
  go_loop [11, 12] (fun v i => ∃ k : Nat, p ≤ k ∧ k ≤ q ∧ i = .int .i64 k ∧ v = .int .i64 (cN (fl (gW s g c f) k) p q : Nat)) (fun _ i => q - (intOf i).toNat)
  case atStart => exact ⟨p, by omega, by omega, rfl, by rw [cN_none (fun k hk hb => by have := (fl_lt hk).1; unfold Btw at hb; omega)]; rfl⟩
  case round =>
    obtain ⟨k, hpk, hk, rfl, rfl⟩ := hrel
    by_cases hlt : k < q
    · have hc1 := hcell.out k (by omega)
      have hlti : (k : Int) < (q : Int) := by omega
      have HS := Lib.hid (cN_step (gW s g c f) (k := k) (fr := (p : Int)) (to := (q : Int)) (by omega) (by omega))
      have hle : ((cN (fl (gW s g c f) k) p q : Nat) : Int) ≤ 2000 := by have := cN_le (fl (gW s g c f) k) p q; have := fl_len (gW s g c f) k; omega
      generalize cN (fl (gW s g c f) k) p q = N at *
      generalize gW s g c f k = z at *
      cases z
      · go_wp2
        go_round
        case rel => exact ⟨k + 1, by omega, by omega, by go_num, by rw [HS.out]; simp⟩
        case measure => simp [intOf]; omega
      · go_wp2
        go_round
        case rel => exact ⟨k + 1, by omega, by omega, by go_num, by rw [HS.out]; simp⟩
        case measure => simp [intOf]; omega
    · obtain rfl : k = q := by omega
      have HB := Lib.hid hB2
      clear hB2
      go_wp2
      go_ret
      exact ⟨by rw [hst.out]; rfl, HB.out⟩
set_option maxRecDepth 100000 in
set_option maxHeartbeats 1000000 in
theorem rminutes_say (s g c : Int) (a : Option Addr) (n cap : Nat) (f : Nat → Int) (fr to : Int) (w : World) (hA : IAt w a n f) (hcap : n ≤ 9223372036854775807) :
    Calls Tryd.prog 22 #[.agg #[.int .i64 s, .int .i64 g, .int .i64 c], .slice a n cap, .int .i64 fr, .int .i64 to] w fun e w' => e = .returned (.tuple #[.int .i64 (miN s g c n f fr to : Nat), .int .i64 (miE s g c n f fr to)]) ∧ Below w.heap.size w w' := by
  have HV := Lib.hid (fun W (hW : Below w.heap.size w W) => asked_any s g c a n cap f W (hA.on hW) hcap)
  unfold miE miN
  cases hk : AskB s g c n f
  · rw [hk] at HV
    go_enter Tryd.func22, Tryd.ntmps22
    go_wp2_with fail
    refine calls_after (HV.out _ (by (repeat' (first | (with_reducible exact Below.refl _ _) | (with_reducible assumption) | (with_reducible refine Below.alloc ?_ ?_ _) | (with_reducible refine Below.drew ?_) | (with_reducible refine below_drewN ?_ _) | (with_reducible refine Below.setCell ?_ ?_ _) | (with_reducible refine below_after ?_ ?_ _) | (with_reducible refine below_set ?_) | (with_reducible refine After.size_le _ ?_) | (with_reducible refine size_alloc_le ?_) | (with_reducible refine size_set_le ?_) | (with_reducible refine size_drewN_le ?_) | go_size)))) ?_
    intro x1
    go_wp2
    go_returns
    exact ⟨rfl, by (repeat' (first | (with_reducible exact Below.refl _ _) | (with_reducible assumption) | (with_reducible refine Below.alloc ?_ ?_ _) | (with_reducible refine Below.drew ?_) | (with_reducible refine below_drewN ?_ _) | (with_reducible refine Below.setCell ?_ ?_ _) | (with_reducible refine below_after ?_ ?_ _) | (with_reducible refine below_set ?_) | (with_reducible refine After.size_le _ ?_) | (with_reducible refine size_alloc_le ?_) | (with_reducible refine size_set_le ?_) | (with_reducible refine size_drewN_le ?_) | go_size))⟩
  · obtain ⟨hc, hn, hf⟩ := ask_c hk
    have hnI : (n : Int) ≤ 2000 := by omega
    rw [hk] at HV
    have eW : decide (Wth fr to n) = (decide (Btw to 0 n) && decide (Btw fr 0 to)) := by
      by_cases h1 : Btw to 0 n <;> by_cases h2 : Btw fr 0 to
      · rw [decide_eq_true h1, decide_eq_true h2, decide_eq_true (by unfold Btw at *; unfold Wth; omega)]; rfl
      · rw [decide_eq_true h1, decide_eq_false h2, decide_eq_false (by unfold Btw at *; unfold Wth; omega)]; rfl
      · rw [decide_eq_false h1, decide_eq_false (by unfold Btw at *; unfold Wth; omega)]; rfl
      · rw [decide_eq_false h1, decide_eq_false (by unfold Btw at *; unfold Wth; omega)]; rfl
    by_cases hb : Wth fr to n
    · have HC := Lib.hid (fun W (hW : Below w.heap.size w W) => rminutes_any s g c a n cap f fr to W (hA.on hW) hc hn hf hb)
      have H1 := Lib.hid (fun W => rwithin_b to 0 n W (decide_eq_true (by unfold Wth at hb; unfold Btw; omega)))
      have H2 := Lib.hid (fun W => rwithin_b fr 0 to W (decide_eq_true (by unfold Wth at hb; unfold Btw; omega)))
      rw [decide_eq_true hb]
      simp only [if_true, Bool.true_and, if_pos hb]
      clear hb eW
      generalize cN (fl (gW s g c f) n) fr to = N at *
      go_enter Tryd.func22, Tryd.ntmps22
      go_wp2_with fail
      refine calls_after (HV.out _ (by (repeat' (first | (with_reducible exact Below.refl _ _) | (with_reducible assumption) | (with_reducible refine Below.alloc ?_ ?_ _) | (with_reducible refine Below.drew ?_) | (with_reducible refine below_drewN ?_ _) | (with_reducible refine Below.setCell ?_ ?_ _) | (with_reducible refine below_after ?_ ?_ _) | (with_reducible refine below_set ?_) | (with_reducible refine After.size_le _ ?_) | (with_reducible refine size_alloc_le ?_) | (with_reducible refine size_set_le ?_) | (with_reducible refine size_drewN_le ?_) | go_size)))) ?_
      intro x1
      go_wp2_with (go_at_call 59; (first | (with_reducible refine (H1.out _).mono ?_) | (with_reducible refine (H2.out _).mono ?_)); rintro e w1 ⟨rfl, rfl⟩)
      refine calls_after2 (HC.out _ (by (repeat' (first | (with_reducible exact Below.refl _ _) | (with_reducible assumption) | (with_reducible refine Below.alloc ?_ ?_ _) | (with_reducible refine Below.drew ?_) | (with_reducible refine below_drewN ?_ _) | (with_reducible refine Below.setCell ?_ ?_ _) | (with_reducible refine below_after ?_ ?_ _) | (with_reducible refine below_set ?_) | (with_reducible refine After.size_le _ ?_) | (with_reducible refine size_alloc_le ?_) | (with_reducible refine size_set_le ?_) | (with_reducible refine size_drewN_le ?_) | go_size)))) ?_
      intro x2
      go_wp2
      go_returns
      exact ⟨rfl, by (repeat' (first | (with_reducible exact Below.refl _ _) | (with_reducible assumption) | (with_reducible refine Below.alloc ?_ ?_ _) | (with_reducible refine Below.drew ?_) | (with_reducible refine below_drewN ?_ _) | (with_reducible refine Below.setCell ?_ ?_ _) | (with_reducible refine below_after ?_ ?_ _) | (with_reducible refine below_set ?_) | (with_reducible refine After.size_le _ ?_) | (with_reducible refine size_alloc_le ?_) | (with_reducible refine size_set_le ?_) | (with_reducible refine size_drewN_le ?_) | go_size))⟩
    · rw [decide_eq_false hb]
      simp only [if_true, Bool.and_false, if_neg hb]
      have H1 := Lib.hid (fun W => rwithin_any to 0 n W)
      have H2 := Lib.hid (fun W => rwithin_any fr 0 to W)
      rw [decide_eq_false hb] at eW
      generalize decide (Btw to 0 n) = z1 at *
      generalize decide (Btw fr 0 to) = z2 at *
      clear hb
      cases z1
      · clear eW
        go_enter Tryd.func22, Tryd.ntmps22
        go_wp2_with fail
        refine calls_after (HV.out _ (by (repeat' (first | (with_reducible exact Below.refl _ _) | (with_reducible assumption) | (with_reducible refine Below.alloc ?_ ?_ _) | (with_reducible refine Below.drew ?_) | (with_reducible refine below_drewN ?_ _) | (with_reducible refine Below.setCell ?_ ?_ _) | (with_reducible refine below_after ?_ ?_ _) | (with_reducible refine below_set ?_) | (with_reducible refine After.size_le _ ?_) | (with_reducible refine size_alloc_le ?_) | (with_reducible refine size_set_le ?_) | (with_reducible refine size_drewN_le ?_) | go_size)))) ?_
        intro x1
        go_wp2_with (go_at_call 59; (first | (with_reducible refine (H1.out _).mono ?_) | (with_reducible refine (H2.out _).mono ?_)); rintro e w1 ⟨rfl, rfl⟩)
        go_returns
        exact ⟨rfl, by (repeat' (first | (with_reducible exact Below.refl _ _) | (with_reducible assumption) | (with_reducible refine Below.alloc ?_ ?_ _) | (with_reducible refine Below.drew ?_) | (with_reducible refine below_drewN ?_ _) | (with_reducible refine Below.setCell ?_ ?_ _) | (with_reducible refine below_after ?_ ?_ _) | (with_reducible refine below_set ?_) | (with_reducible refine After.size_le _ ?_) | (with_reducible refine size_alloc_le ?_) | (with_reducible refine size_set_le ?_) | (with_reducible refine size_drewN_le ?_) | go_size))⟩
      · obtain rfl : false = z2 := eW
        go_enter Tryd.func22, Tryd.ntmps22
        go_wp2_with fail
        refine calls_after (HV.out _ (by (repeat' (first | (with_reducible exact Below.refl _ _) | (with_reducible assumption) | (with_reducible refine Below.alloc ?_ ?_ _) | (with_reducible refine Below.drew ?_) | (with_reducible refine below_drewN ?_ _) | (with_reducible refine Below.setCell ?_ ?_ _) | (with_reducible refine below_after ?_ ?_ _) | (with_reducible refine below_set ?_) | (with_reducible refine After.size_le _ ?_) | (with_reducible refine size_alloc_le ?_) | (with_reducible refine size_set_le ?_) | (with_reducible refine size_drewN_le ?_) | go_size)))) ?_
        intro x1
        go_wp2_with (go_at_call 59; (first | (with_reducible refine (H1.out _).mono ?_) | (with_reducible refine (H2.out _).mono ?_)); rintro e w1 ⟨rfl, rfl⟩)
        go_returns
        exact ⟨rfl, by (repeat' (first | (with_reducible exact Below.refl _ _) | (with_reducible assumption) | (with_reducible refine Below.alloc ?_ ?_ _) | (with_reducible refine Below.drew ?_) | (with_reducible refine below_drewN ?_ _) | (with_reducible refine Below.setCell ?_ ?_ _) | (with_reducible refine below_after ?_ ?_ _) | (with_reducible refine below_set ?_) | (with_reducible refine After.size_le _ ?_) | (with_reducible refine size_alloc_le ?_) | (with_reducible refine size_set_le ?_) | (with_reducible refine size_drewN_le ?_) | go_size))⟩

/-- What Resumes answers. -/
def reE (s g c : Int) (n : Nat) (f : Nat → Int) : Int := if AskB s g c n f then (if wt s g c f n = 0 then 10 else 0) else 1
def reN (s g c : Int) (n : Nat) (f : Nat → Int) : Int := if AskB s g c n f then wt s g c f n else 0
set_option maxRecDepth 100000 in
set_option maxHeartbeats 1000000 in
theorem rresumes_say (s g c : Int) (a : Option Addr) (n cap : Nat) (f : Nat → Int) (w : World) (hA : IAt w a n f) (hcap : n ≤ 9223372036854775807) :
    Calls Tryd.prog 26 #[.agg #[.int .i64 s, .int .i64 g, .int .i64 c], .slice a n cap] w fun e w' => e = .returned (.tuple #[.int .i64 (reN s g c n f), .int .i64 (reE s g c n f)]) ∧ Below w.heap.size w w' := by
  have HV := Lib.hid (fun W (hW : Below w.heap.size w W) => asked_any s g c a n cap f W (hA.on hW) hcap)
  have HA := Lib.hid hA
  unfold reE reN
  cases hk : AskB s g c n f
  · rw [hk] at HV
    go_enter Tryd.func26, Tryd.ntmps26
    go_wp2_with fail
    refine calls_after (HV.out _ (by (repeat' (first | (with_reducible exact Below.refl _ _) | (with_reducible assumption) | (with_reducible refine Below.alloc ?_ ?_ _) | (with_reducible refine Below.drew ?_) | (with_reducible refine below_drewN ?_ _) | (with_reducible refine Below.setCell ?_ ?_ _) | (with_reducible refine below_after ?_ ?_ _) | (with_reducible refine below_set ?_) | (with_reducible refine After.size_le _ ?_) | (with_reducible refine size_alloc_le ?_) | (with_reducible refine size_set_le ?_) | (with_reducible refine size_drewN_le ?_) | go_size)))) ?_
    intro x1
    go_wp2
    go_returns
    exact ⟨rfl, by (repeat' (first | (with_reducible exact Below.refl _ _) | (with_reducible assumption) | (with_reducible refine Below.alloc ?_ ?_ _) | (with_reducible refine Below.drew ?_) | (with_reducible refine below_drewN ?_ _) | (with_reducible refine Below.setCell ?_ ?_ _) | (with_reducible refine below_after ?_ ?_ _) | (with_reducible refine below_set ?_) | (with_reducible refine After.size_le _ ?_) | (with_reducible refine size_alloc_le ?_) | (with_reducible refine size_set_le ?_) | (with_reducible refine size_drewN_le ?_) | go_size))⟩
  · obtain ⟨hc, hn, hf⟩ := ask_c hk
    rw [hk] at HV
    simp only [if_true]
    have hwt := wt_bd (s := s) (g := g) hc.1 f n
    have hh := stW_bd hc.1 hwt
    have HG := Lib.hid (fun W (hW : Below w.heap.size w W) => rgoing_any s g c a n cap f W (HA.out.on hW) hn hc hf)
    obtain ⟨hc1, hc2⟩ := hc
    by_cases h0 : wt s g c f n = 0
    · have e0 : stW c 0 = -1 := by unfold stW; rfl
      rw [h0, e0] at HG
      rw [if_pos h0, h0]
      go_enter Tryd.func26, Tryd.ntmps26
      go_wp2_with fail
      refine calls_after (HV.out _ (by (repeat' (first | (with_reducible exact Below.refl _ _) | (with_reducible assumption) | (with_reducible refine Below.alloc ?_ ?_ _) | (with_reducible refine Below.drew ?_) | (with_reducible refine below_drewN ?_ _) | (with_reducible refine Below.setCell ?_ ?_ _) | (with_reducible refine below_after ?_ ?_ _) | (with_reducible refine below_set ?_) | (with_reducible refine After.size_le _ ?_) | (with_reducible refine size_alloc_le ?_) | (with_reducible refine size_set_le ?_) | (with_reducible refine size_drewN_le ?_) | go_size)))) ?_
      intro x1
      have hB1 : Below w.heap.size w x1.w := by (repeat' (first | (with_reducible exact Below.refl _ _) | (with_reducible assumption) | (with_reducible refine Below.alloc ?_ ?_ _) | (with_reducible refine Below.drew ?_) | (with_reducible refine below_drewN ?_ _) | (with_reducible refine Below.setCell ?_ ?_ _) | (with_reducible refine below_after ?_ ?_ _) | (with_reducible refine below_set ?_) | (with_reducible refine After.size_le _ ?_) | (with_reducible refine size_alloc_le ?_) | (with_reducible refine size_set_le ?_) | (with_reducible refine size_drewN_le ?_) | go_size))
      have c2 : x1.w.cell? ⟨w.heap.size, 2, none⟩ = some (.int .i64 c) := by
        rw [x1.out.cell (p := ⟨w.heap.size, 2, none⟩) (by simp)]
        simp [go_sem]
      have hx1s := x1.out.size
      simp only [World.size_alloc] at hx1s
      go_wp2_with fail
      refine (HG.out _ hB1).mono ?_
      rintro e w2 ⟨⟨gg, rfl, hg⟩, hb2⟩
      have HB2 := Lib.hid (hB1.trans (hb2.mono hB1.size))
      have d2 := (hb2.cell (p := ⟨w.heap.size, 2, none⟩) (by simp; omega)).trans c2
      clear hg hb2 hB1 HG c2
      go_wp2
      go_returns
      exact ⟨rfl, HB2.out⟩
    · have e0 : stW c (wt s g c f n) = c - wt s g c f n := by unfold stW; rw [if_neg h0]
      rw [e0] at hh HG
      rw [if_neg h0]
      have e1 : Hid (c - (c - wt s g c f n) = wt s g c f n) := Lib.hid (by omega)
      have e2 : ¬ (c - wt s g c f n < 0) := by omega
      generalize wt s g c f n = u at *
      generalize hv : c - u = v at *
      clear hv
      go_enter Tryd.func26, Tryd.ntmps26
      go_wp2_with fail
      refine calls_after (HV.out _ (by (repeat' (first | (with_reducible exact Below.refl _ _) | (with_reducible assumption) | (with_reducible refine Below.alloc ?_ ?_ _) | (with_reducible refine Below.drew ?_) | (with_reducible refine below_drewN ?_ _) | (with_reducible refine Below.setCell ?_ ?_ _) | (with_reducible refine below_after ?_ ?_ _) | (with_reducible refine below_set ?_) | (with_reducible refine After.size_le _ ?_) | (with_reducible refine size_alloc_le ?_) | (with_reducible refine size_set_le ?_) | (with_reducible refine size_drewN_le ?_) | go_size)))) ?_
      intro x1
      have hB1 : Below w.heap.size w x1.w := by (repeat' (first | (with_reducible exact Below.refl _ _) | (with_reducible assumption) | (with_reducible refine Below.alloc ?_ ?_ _) | (with_reducible refine Below.drew ?_) | (with_reducible refine below_drewN ?_ _) | (with_reducible refine Below.setCell ?_ ?_ _) | (with_reducible refine below_after ?_ ?_ _) | (with_reducible refine below_set ?_) | (with_reducible refine After.size_le _ ?_) | (with_reducible refine size_alloc_le ?_) | (with_reducible refine size_set_le ?_) | (with_reducible refine size_drewN_le ?_) | go_size))
      have c2 : x1.w.cell? ⟨w.heap.size, 2, none⟩ = some (.int .i64 c) := by
        rw [x1.out.cell (p := ⟨w.heap.size, 2, none⟩) (by simp)]
        simp [go_sem]
      have hx1s := x1.out.size
      simp only [World.size_alloc] at hx1s
      go_wp2_with fail
      refine (HG.out _ hB1).mono ?_
      rintro e w2 ⟨⟨gg, rfl, hg⟩, hb2⟩
      have HB2 := Lib.hid (hB1.trans (hb2.mono hB1.size))
      have d2 := (hb2.cell (p := ⟨w.heap.size, 2, none⟩) (by simp; omega)).trans c2
      clear hg hb2 hB1 HG c2
      go_wp2
      go_returns
      exact ⟨by rw [e1.out]; rfl, HB2.out⟩
end
end Go.Proofs.YtfmoedlnjlkiiaaDoor
