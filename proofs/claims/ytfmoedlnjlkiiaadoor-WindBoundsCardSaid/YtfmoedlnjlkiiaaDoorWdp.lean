/- Stops and Goes, Minutes, in both programs. -/
import Derived.Test.YtfmoedlnjlkiiaaDoorWdw
import Derived.Test.YtfmoedlnjlkiiaaDoorWdc
namespace Go.Proofs.YtfmoedlnjlkiiaaDoor
open Go.RowKit
attribute [local go_sem] After.cell After.frozen After.lt After.le After.ne After.ne' After.set_eq After.size_set After.lt_add

theorem ask_of {s g c : Int} {n : Nat} {f : Nat → Int} (h : AskB s g c n f = true) : GoodG n f ∧ GoodRu s g c := by
  unfold AskB at h
  rw [Bool.and_eq_true] at h
  exact ⟨of_decide_eq_true h.1, of_decide_eq_true h.2⟩
theorem ask_c {s g c : Int} {n : Nat} {f : Nat → Int} (h : AskB s g c n f = true) : (1 ≤ c ∧ c ≤ 1000) ∧ n ≤ 2000 ∧ ∀ k, k < n → -1 ≤ f k := by
  obtain ⟨⟨h1, h2⟩, _, _, h3⟩ := ask_of h
  unfold Btw at h3
  exact ⟨by omega, h1, fun k hk => (h2 k hk).1⟩
/-- What Stops answers. -/
def stL (s g c : Int) (n : Nat) (f : Nat → Int) : List (Int × Int) := if AskB s g c n f then spS (fl (pW s g c f false) n) else []
def asE (s g c : Int) (n : Nat) (f : Nat → Int) : Int := if AskB s g c n f then 0 else 1

set_option maxRecDepth 100000 in
set_option maxHeartbeats 1000000 in
theorem stops_any (s g c : Int) (a : Option Addr) (n cap : Nat) (f : Nat → Int) (w : World) (hA : IAt w a n f) :
    Calls Tryd.prog 12 #[.agg #[.int .i64 s, .int .i64 g, .int .i64 c], .slice a n cap] w fun e w' => (∃ v, e = .returned (.tuple #[v, .int .i64 (asE s g c n f)]) ∧ SpRow w' w.heap.size v (stL s g c n f)) ∧ Below w.heap.size w w' := by
  have HV := Lib.hid (fun W (hW : Below w.heap.size w W) => valid_any s g c a n cap f W (hA.on hW))
  have HA := Lib.hid hA
  unfold waV at HV
  unfold asE stL
  cases hk : AskB s g c n f
  · rw [hk] at HV
    go_enter Tryd.func12, Tryd.ntmps12
    go_wp2_with fail
    refine calls_after (HV.out _ (by (repeat' (first | (with_reducible exact Below.refl _ _) | (with_reducible assumption) | (with_reducible refine Below.alloc ?_ ?_ _) | (with_reducible refine Below.drew ?_) | (with_reducible refine below_drewN ?_ _) | (with_reducible refine Below.setCell ?_ ?_ _) | (with_reducible refine below_after ?_ ?_ _) | (with_reducible refine below_set ?_) | (with_reducible refine After.size_le _ ?_) | (with_reducible refine size_alloc_le ?_) | (with_reducible refine size_set_le ?_) | (with_reducible refine size_drewN_le ?_) | go_size)))) ?_
    intro x1
    go_wp2
    go_returns
    exact ⟨⟨_, rfl, World.ownsRow_nil _ _ _ _⟩, by (repeat' (first | (with_reducible exact Below.refl _ _) | (with_reducible assumption) | (with_reducible refine Below.alloc ?_ ?_ _) | (with_reducible refine Below.drew ?_) | (with_reducible refine below_drewN ?_ _) | (with_reducible refine Below.setCell ?_ ?_ _) | (with_reducible refine below_after ?_ ?_ _) | (with_reducible refine below_set ?_) | (with_reducible refine After.size_le _ ?_) | (with_reducible refine size_alloc_le ?_) | (with_reducible refine size_set_le ?_) | (with_reducible refine size_drewN_le ?_) | go_size))⟩
  · obtain ⟨hc, hn, hf⟩ := ask_c hk
    rw [hk] at HV
    have HW := Lib.hid (fun w => where_any s g c a n cap false w)
    unfold waV at HW
    go_enter Tryd.func12, Tryd.ntmps12
    go_wp2_with fail
    refine calls_after (HV.out _ (by (repeat' (first | (with_reducible exact Below.refl _ _) | (with_reducible assumption) | (with_reducible refine Below.alloc ?_ ?_ _) | (with_reducible refine Below.drew ?_) | (with_reducible refine below_drewN ?_ _) | (with_reducible refine Below.setCell ?_ ?_ _) | (with_reducible refine below_after ?_ ?_ _) | (with_reducible refine below_set ?_) | (with_reducible refine After.size_le _ ?_) | (with_reducible refine size_alloc_le ?_) | (with_reducible refine size_set_le ?_) | (with_reducible refine size_drewN_le ?_) | go_size)))) ?_
    intro x1
    have hB1 : Below w.heap.size w x1.w := by (repeat' (first | (with_reducible exact Below.refl _ _) | (with_reducible assumption) | (with_reducible refine Below.alloc ?_ ?_ _) | (with_reducible refine Below.drew ?_) | (with_reducible refine below_drewN ?_ _) | (with_reducible refine Below.setCell ?_ ?_ _) | (with_reducible refine below_after ?_ ?_ _) | (with_reducible refine below_set ?_) | (with_reducible refine After.size_le _ ?_) | (with_reducible refine size_alloc_le ?_) | (with_reducible refine size_set_le ?_) | (with_reducible refine size_drewN_le ?_) | go_size))
    have hs1 := hB1.size
    have HI := Lib.hid (where_it s g c a n cap f false x1.w hc hn (HA.out.on hB1))
    have HS := Lib.hid (spans_any _ _ _ _ _ HI.out (fun x hx => by have := (fl_lt hx).1; omega) (Nat.le_trans (fl_len _ _) hn))
    clear HI
    go_wp2_with fail
    refine (HW.out _).mono ?_
    rintro e w2 ⟨rfl, rfl⟩
    go_wp2_with fail
    refine HS.out.mono ?_
    rintro e w3 ⟨⟨v, rfl, hv⟩, hb3⟩
    have hB3 : Below w.heap.size w w3 := hB1.trans (Below.trans (by (repeat' (first | (with_reducible exact Nat.le_refl _) | (with_reducible exact Below.refl _ _) | (with_reducible assumption) | (with_reducible refine Below.alloc ?_ ?_ _) | (with_reducible refine Below.drew ?_) | (with_reducible refine below_drewN ?_ _) | (with_reducible refine Below.setCell ?_ ?_ _) | (with_reducible refine below_after ?_ ?_ _) | (with_reducible refine below_set ?_) | (with_reducible refine After.size_le _ ?_) | (with_reducible refine size_alloc_le ?_) | (with_reducible refine size_set_le ?_) | (with_reducible refine size_drewN_le ?_) | go_size))) (hb3.mono (by simp; omega)))
    have HV3 := Lib.hid (Go.Joins.ownsRow_le (base' := w.heap.size) hv (by have := hB1.size; simp; omega))
    have HB3 := Lib.hid hB3
    clear hv hb3 hB3
    go_wp2
    go_returns
    exact ⟨⟨v, rfl, HV3.out⟩, HB3.out⟩
set_option maxRecDepth 100000 in
set_option maxHeartbeats 1000000 in
theorem rstops_any (s g c : Int) (a : Option Addr) (n cap : Nat) (f : Nat → Int) (w : World) (hA : IAt w a n f) (hcap : n ≤ 9223372036854775807) :
    Calls Tryd.prog 13 #[.agg #[.int .i64 s, .int .i64 g, .int .i64 c], .slice a n cap] w fun e w' => (∃ v, e = .returned (.tuple #[v, .int .i64 (asE s g c n f)]) ∧ SpRow w' w.heap.size v (stL s g c n f)) ∧ Below w.heap.size w w' := by
  have HV := Lib.hid (fun W (hW : Below w.heap.size w W) => asked_any s g c a n cap f W (hA.on hW) hcap)
  have HA := Lib.hid hA
  unfold asE stL
  cases hk : AskB s g c n f
  · rw [hk] at HV
    go_enter Tryd.func13, Tryd.ntmps13
    go_wp2_with fail
    refine calls_after (HV.out _ (by (repeat' (first | (with_reducible exact Below.refl _ _) | (with_reducible assumption) | (with_reducible refine Below.alloc ?_ ?_ _) | (with_reducible refine Below.drew ?_) | (with_reducible refine below_drewN ?_ _) | (with_reducible refine Below.setCell ?_ ?_ _) | (with_reducible refine below_after ?_ ?_ _) | (with_reducible refine below_set ?_) | (with_reducible refine After.size_le _ ?_) | (with_reducible refine size_alloc_le ?_) | (with_reducible refine size_set_le ?_) | (with_reducible refine size_drewN_le ?_) | go_size)))) ?_
    intro x1
    go_wp2
    go_returns
    exact ⟨⟨_, rfl, World.ownsRow_nil _ _ _ _⟩, by (repeat' (first | (with_reducible exact Below.refl _ _) | (with_reducible assumption) | (with_reducible refine Below.alloc ?_ ?_ _) | (with_reducible refine Below.drew ?_) | (with_reducible refine below_drewN ?_ _) | (with_reducible refine Below.setCell ?_ ?_ _) | (with_reducible refine below_after ?_ ?_ _) | (with_reducible refine below_set ?_) | (with_reducible refine After.size_le _ ?_) | (with_reducible refine size_alloc_le ?_) | (with_reducible refine size_set_le ?_) | (with_reducible refine size_drewN_le ?_) | go_size))⟩
  · obtain ⟨hc, hn, hf⟩ := ask_c hk
    rw [hk] at HV
    go_enter Tryd.func13, Tryd.ntmps13
    go_wp2_with fail
    refine calls_after (HV.out _ (by (repeat' (first | (with_reducible exact Below.refl _ _) | (with_reducible assumption) | (with_reducible refine Below.alloc ?_ ?_ _) | (with_reducible refine Below.drew ?_) | (with_reducible refine below_drewN ?_ _) | (with_reducible refine Below.setCell ?_ ?_ _) | (with_reducible refine below_after ?_ ?_ _) | (with_reducible refine below_set ?_) | (with_reducible refine After.size_le _ ?_) | (with_reducible refine size_alloc_le ?_) | (with_reducible refine size_set_le ?_) | (with_reducible refine size_drewN_le ?_) | go_size)))) ?_
    intro x1
    have hB1 : Below w.heap.size w x1.w := by (repeat' (first | (with_reducible exact Below.refl _ _) | (with_reducible assumption) | (with_reducible refine Below.alloc ?_ ?_ _) | (with_reducible refine Below.drew ?_) | (with_reducible refine below_drewN ?_ _) | (with_reducible refine Below.setCell ?_ ?_ _) | (with_reducible refine below_after ?_ ?_ _) | (with_reducible refine below_set ?_) | (with_reducible refine After.size_le _ ?_) | (with_reducible refine size_alloc_le ?_) | (with_reducible refine size_set_le ?_) | (with_reducible refine size_drewN_le ?_) | go_size))
    have HG := Lib.hid (rgoing_any s g c a n cap f x1.w (HA.out.on hB1) hn hc hf)
    go_wp2_with fail
    refine HG.out.mono ?_
    rintro e w2 ⟨⟨gg, rfl, hg⟩, hb2⟩
    have hB2 : Below w.heap.size w w2 := hB1.trans (hb2.mono hB1.size)
    have HS := Lib.hid (rspans_any gg n (gW s g c f) false w2 (hg.lt _ rfl).2 hn (fun k hk => by rw [hg.cellAt k (by omega), bxs_full _ _ hk]))
    have HB2 := Lib.hid hB2
    clear hg hb2 hB2
    go_wp2_with fail
    refine HS.out.mono ?_
    rintro e w3 ⟨⟨v, rfl, hv⟩, hb3⟩
    have HV3 := Lib.hid (Go.Joins.ownsRow_le (base' := w.heap.size) hv HB2.out.size)
    have HB3 := Lib.hid (HB2.out.trans (hb3.mono HB2.out.size))
    clear hv hb3
    go_wp2
    go_returns
    exact ⟨⟨v, rfl, HV3.out⟩, HB3.out⟩

/-! ### A minute, and how many -/
theorem cN_none {xs : List Nat} {fr to : Int} (h : ∀ k ∈ xs, ¬ Btw (k : Int) fr (to - 1)) : cN xs fr to = 0 := by
  unfold cN
  rw [List.length_eq_zero_iff, List.filter_eq_nil_iff]
  intro k hk
  rw [decide_eq_false (h k hk)]
  simp
theorem cN_step (p : Nat → Bool) {k : Nat} {fr to : Int} (h1 : fr ≤ k) (h2 : (k : Int) < to) : cN (fl p (k + 1)) fr to = cN (fl p k) fr to + if p k then 1 else 0 := by
  rw [fl_succ]
  by_cases h : p k = true
  · rw [if_pos h, if_pos h, cN_snoc, decide_eq_true (show Btw (k : Int) fr (to - 1) from ⟨h1, by omega⟩), if_pos rfl]
  · rw [if_neg h, if_neg h]; rfl
theorem cN_stop (p : Nat → Bool) {fr to : Int} : ∀ (d k : Nat), to ≤ k → cN (fl p (k + d)) fr to = cN (fl p k) fr to
  | 0, _, _ => rfl
  | d + 1, k, h => by
    rw [← Nat.add_assoc, fl_succ]
    by_cases h1 : p (k + d) = true
    · rw [if_pos h1, cN_snoc, decide_eq_false (fun hb : Btw ((k + d : Nat) : Int) fr (to - 1) => by unfold Btw at hb; omega)]
      exact cN_stop p d k h
    · rw [if_neg h1]
      exact cN_stop p d k h
theorem cN_at (p : Nat → Bool) {m n : Nat} (h : m < n) : cN (fl p n) m (m + 1) = if p m then 1 else 0 := by
  obtain ⟨d, rfl⟩ : ∃ d, n = m + 1 + d := ⟨n - (m + 1), by omega⟩
  rw [cN_stop p d (m + 1) (by omega), cN_step p (by omega) (by omega), cN_none (fun k hk hb => by have := (fl_lt hk).1; unfold Btw at hb; omega), Nat.zero_add]
theorem fl_eq {p q : Nat → Bool} {n : Nat} (h : ∀ k, k < n → p k = q k) : fl p n = fl q n := by
  unfold fl
  exact List.filter_congr fun k hk => h k (List.mem_range.1 hk)
theorem pW_true (s g c : Int) (f : Nat → Int) (k : Nat) : pW s g c f true k = gW s g c f k := by unfold pW; simp
/-- What Goes answers. -/
def goE (s g c : Int) (n : Nat) (f : Nat → Int) (m : Int) : Int := if AskB s g c n f then (if Btw m 0 ((n : Int) - 1) then 0 else 7) else 1
def goB (s g c : Int) (n : Nat) (f : Nat → Int) (m : Int) : Bool := AskB s g c n f && decide (Btw m 0 ((n : Int) - 1)) && gW s g c f m.toNat
set_option maxRecDepth 100000 in
set_option maxHeartbeats 1000000 in
theorem goes_say (s g c : Int) (a : Option Addr) (n cap : Nat) (f : Nat → Int) (m : Int) (w : World) (hA : IAt w a n f) :
    Calls Tryd.prog 19 #[.agg #[.int .i64 s, .int .i64 g, .int .i64 c], .slice a n cap, .int .i64 m] w fun e w' => e = .returned (.tuple #[.bool (goB s g c n f m), .int .i64 (goE s g c n f m)]) ∧ Below w.heap.size w w' := by
  have HV := Lib.hid (fun W (hW : Below w.heap.size w W) => valid_any s g c a n cap f W (hA.on hW))
  have HA := Lib.hid hA
  unfold waV at HV
  unfold goE goB
  cases hk : AskB s g c n f
  · rw [hk] at HV
    go_enter Tryd.func19, Tryd.ntmps19
    go_wp2_with fail
    refine calls_after (HV.out _ (by (repeat' (first | (with_reducible exact Below.refl _ _) | (with_reducible assumption) | (with_reducible refine Below.alloc ?_ ?_ _) | (with_reducible refine Below.drew ?_) | (with_reducible refine below_drewN ?_ _) | (with_reducible refine Below.setCell ?_ ?_ _) | (with_reducible refine below_after ?_ ?_ _) | (with_reducible refine below_set ?_) | (with_reducible refine After.size_le _ ?_) | (with_reducible refine size_alloc_le ?_) | (with_reducible refine size_set_le ?_) | (with_reducible refine size_drewN_le ?_) | go_size)))) ?_
    intro x1
    go_wp2
    go_returns
    exact ⟨rfl, by (repeat' (first | (with_reducible exact Below.refl _ _) | (with_reducible assumption) | (with_reducible refine Below.alloc ?_ ?_ _) | (with_reducible refine Below.drew ?_) | (with_reducible refine below_drewN ?_ _) | (with_reducible refine Below.setCell ?_ ?_ _) | (with_reducible refine below_after ?_ ?_ _) | (with_reducible refine below_set ?_) | (with_reducible refine After.size_le _ ?_) | (with_reducible refine size_alloc_le ?_) | (with_reducible refine size_set_le ?_) | (with_reducible refine size_drewN_le ?_) | go_size))⟩
  · obtain ⟨hc, hn, hf⟩ := ask_c hk
    have hnI : (n : Int) ≤ 2000 := by omega
    rw [hk] at HV
    by_cases hb : Btw m 0 ((n : Int) - 1)
    · have HB := Lib.hid (fun W => between_b m 0 ((n : Int) - 1) W (decide_eq_true hb))
      rw [decide_eq_true hb]
      simp only [if_true, Bool.true_and, if_pos hb]
      obtain ⟨k, rfl⟩ : ∃ k : Nat, m = k := ⟨m.toNat, by unfold Btw at hb; omega⟩
      have hkn : k < n := by unfold Btw at hb; omega
      have HC := Lib.hid (fun W (hW : Below w.heap.size w W) => count_any s g c a n cap f k ((k : Int) + 1) W hc hn (hA.on hW) (by omega))
      rw [fl_eq (fun k _ => pW_true s g c f k), cN_at _ hkn] at HC
      have hki : (k : Int) ≤ 2000 := by omega
      simp only [Int.toNat_natCast]
      unfold waV at HC
      clear hb
      generalize gW s g c f k = z at *
      cases z <;> (
        go_enter Tryd.func19, Tryd.ntmps19
        go_wp2_with fail
        refine calls_after (HV.out _ (by (repeat' (first | (with_reducible exact Below.refl _ _) | (with_reducible assumption) | (with_reducible refine Below.alloc ?_ ?_ _) | (with_reducible refine Below.drew ?_) | (with_reducible refine below_drewN ?_ _) | (with_reducible refine Below.setCell ?_ ?_ _) | (with_reducible refine below_after ?_ ?_ _) | (with_reducible refine below_set ?_) | (with_reducible refine After.size_le _ ?_) | (with_reducible refine size_alloc_le ?_) | (with_reducible refine size_set_le ?_) | (with_reducible refine size_drewN_le ?_) | go_size)))) ?_
        intro x1
        go_wp2_with (go_at_call 58; refine (HB.out _).mono ?_; rintro e w1 ⟨rfl, rfl⟩)
        refine calls_after2 (HC.out _ (by (repeat' (first | (with_reducible exact Below.refl _ _) | (with_reducible assumption) | (with_reducible refine Below.alloc ?_ ?_ _) | (with_reducible refine Below.drew ?_) | (with_reducible refine below_drewN ?_ _) | (with_reducible refine Below.setCell ?_ ?_ _) | (with_reducible refine below_after ?_ ?_ _) | (with_reducible refine below_set ?_) | (with_reducible refine After.size_le _ ?_) | (with_reducible refine size_alloc_le ?_) | (with_reducible refine size_set_le ?_) | (with_reducible refine size_drewN_le ?_) | go_size)))) ?_
        intro x2
        go_wp2
        go_returns
        exact ⟨rfl, by (repeat' (first | (with_reducible exact Below.refl _ _) | (with_reducible assumption) | (with_reducible refine Below.alloc ?_ ?_ _) | (with_reducible refine Below.drew ?_) | (with_reducible refine below_drewN ?_ _) | (with_reducible refine Below.setCell ?_ ?_ _) | (with_reducible refine below_after ?_ ?_ _) | (with_reducible refine below_set ?_) | (with_reducible refine After.size_le _ ?_) | (with_reducible refine size_alloc_le ?_) | (with_reducible refine size_set_le ?_) | (with_reducible refine size_drewN_le ?_) | go_size))⟩)
    · have HB := Lib.hid (fun W => between_b m 0 ((n : Int) - 1) W (decide_eq_false hb))
      rw [decide_eq_false hb]
      simp only [if_true, Bool.false_and, Bool.and_false, if_neg hb]
      clear hb
      go_enter Tryd.func19, Tryd.ntmps19
      go_wp2_with fail
      refine calls_after (HV.out _ (by (repeat' (first | (with_reducible exact Below.refl _ _) | (with_reducible assumption) | (with_reducible refine Below.alloc ?_ ?_ _) | (with_reducible refine Below.drew ?_) | (with_reducible refine below_drewN ?_ _) | (with_reducible refine Below.setCell ?_ ?_ _) | (with_reducible refine below_after ?_ ?_ _) | (with_reducible refine below_set ?_) | (with_reducible refine After.size_le _ ?_) | (with_reducible refine size_alloc_le ?_) | (with_reducible refine size_set_le ?_) | (with_reducible refine size_drewN_le ?_) | go_size)))) ?_
      intro x1
      go_wp2_with (go_at_call 58; refine (HB.out _).mono ?_; rintro e w1 ⟨rfl, rfl⟩)
      go_returns
      exact ⟨rfl, by (repeat' (first | (with_reducible exact Below.refl _ _) | (with_reducible assumption) | (with_reducible refine Below.alloc ?_ ?_ _) | (with_reducible refine Below.drew ?_) | (with_reducible refine below_drewN ?_ _) | (with_reducible refine Below.setCell ?_ ?_ _) | (with_reducible refine below_after ?_ ?_ _) | (with_reducible refine below_set ?_) | (with_reducible refine After.size_le _ ?_) | (with_reducible refine size_alloc_le ?_) | (with_reducible refine size_set_le ?_) | (with_reducible refine size_drewN_le ?_) | go_size))⟩
set_option maxRecDepth 100000 in
set_option maxHeartbeats 1000000 in
theorem rgoes_say (s g c : Int) (a : Option Addr) (n cap : Nat) (f : Nat → Int) (m : Int) (w : World) (hA : IAt w a n f) (hcap : n ≤ 9223372036854775807) :
    Calls Tryd.prog 20 #[.agg #[.int .i64 s, .int .i64 g, .int .i64 c], .slice a n cap, .int .i64 m] w fun e w' => e = .returned (.tuple #[.bool (goB s g c n f m), .int .i64 (goE s g c n f m)]) ∧ Below w.heap.size w w' := by
  have HV := Lib.hid (fun W (hW : Below w.heap.size w W) => asked_any s g c a n cap f W (hA.on hW) hcap)
  have HA := Lib.hid hA
  unfold goE goB
  cases hk : AskB s g c n f
  · rw [hk] at HV
    go_enter Tryd.func20, Tryd.ntmps20
    go_wp2_with fail
    refine calls_after (HV.out _ (by (repeat' (first | (with_reducible exact Below.refl _ _) | (with_reducible assumption) | (with_reducible refine Below.alloc ?_ ?_ _) | (with_reducible refine Below.drew ?_) | (with_reducible refine below_drewN ?_ _) | (with_reducible refine Below.setCell ?_ ?_ _) | (with_reducible refine below_after ?_ ?_ _) | (with_reducible refine below_set ?_) | (with_reducible refine After.size_le _ ?_) | (with_reducible refine size_alloc_le ?_) | (with_reducible refine size_set_le ?_) | (with_reducible refine size_drewN_le ?_) | go_size)))) ?_
    intro x1
    go_wp2
    go_returns
    exact ⟨rfl, by (repeat' (first | (with_reducible exact Below.refl _ _) | (with_reducible assumption) | (with_reducible refine Below.alloc ?_ ?_ _) | (with_reducible refine Below.drew ?_) | (with_reducible refine below_drewN ?_ _) | (with_reducible refine Below.setCell ?_ ?_ _) | (with_reducible refine below_after ?_ ?_ _) | (with_reducible refine below_set ?_) | (with_reducible refine After.size_le _ ?_) | (with_reducible refine size_alloc_le ?_) | (with_reducible refine size_set_le ?_) | (with_reducible refine size_drewN_le ?_) | go_size))⟩
  · obtain ⟨hc, hn, hf⟩ := ask_c hk
    have hnI : (n : Int) ≤ 2000 := by omega
    rw [hk] at HV
    by_cases hb : Btw m 0 ((n : Int) - 1)
    · have HB := Lib.hid (fun W => rwithin_b m 0 ((n : Int) - 1) W (decide_eq_true hb))
      rw [decide_eq_true hb]
      simp only [if_true, Bool.true_and, if_pos hb]
      obtain ⟨k, rfl⟩ : ∃ k : Nat, m = k := ⟨m.toNat, by unfold Btw at hb; omega⟩
      have hkn : k < n := by unfold Btw at hb; omega
      have hki : (k : Int) < (n : Int) := by omega
      simp only [Int.toNat_natCast]
      clear hb
      go_enter Tryd.func20, Tryd.ntmps20
      go_wp2_with fail
      refine calls_after (HV.out _ (by (repeat' (first | (with_reducible exact Below.refl _ _) | (with_reducible assumption) | (with_reducible refine Below.alloc ?_ ?_ _) | (with_reducible refine Below.drew ?_) | (with_reducible refine below_drewN ?_ _) | (with_reducible refine Below.setCell ?_ ?_ _) | (with_reducible refine below_after ?_ ?_ _) | (with_reducible refine below_set ?_) | (with_reducible refine After.size_le _ ?_) | (with_reducible refine size_alloc_le ?_) | (with_reducible refine size_set_le ?_) | (with_reducible refine size_drewN_le ?_) | go_size)))) ?_
      intro x1
      have hB1 : Below w.heap.size w x1.w := by (repeat' (first | (with_reducible exact Below.refl _ _) | (with_reducible assumption) | (with_reducible refine Below.alloc ?_ ?_ _) | (with_reducible refine Below.drew ?_) | (with_reducible refine below_drewN ?_ _) | (with_reducible refine Below.setCell ?_ ?_ _) | (with_reducible refine below_after ?_ ?_ _) | (with_reducible refine below_set ?_) | (with_reducible refine After.size_le _ ?_) | (with_reducible refine size_alloc_le ?_) | (with_reducible refine size_set_le ?_) | (with_reducible refine size_drewN_le ?_) | go_size))
      have HG := Lib.hid (rgoing_any s g c a n cap f x1.w (HA.out.on hB1) hn hc hf)
      go_wp2_with (go_at_call 59; refine (HB.out _).mono ?_; rintro e w1 ⟨rfl, rfl⟩)
      refine HG.out.mono ?_
      rintro e w2 ⟨⟨gg, rfl, hg⟩, hb2⟩
      have HB2 := Lib.hid (hB1.trans (hb2.mono hB1.size))
      have hgc := hg.cellAt k (by omega)
      rw [bxs_full _ _ hkn] at hgc
      clear hg hb2 hB1
      go_wp2
      go_returns
      exact ⟨rfl, HB2.out⟩
    · have HB := Lib.hid (fun W => rwithin_b m 0 ((n : Int) - 1) W (decide_eq_false hb))
      rw [decide_eq_false hb]
      simp only [if_true, Bool.false_and, Bool.and_false, if_neg hb]
      clear hb
      go_enter Tryd.func20, Tryd.ntmps20
      go_wp2_with fail
      refine calls_after (HV.out _ (by (repeat' (first | (with_reducible exact Below.refl _ _) | (with_reducible assumption) | (with_reducible refine Below.alloc ?_ ?_ _) | (with_reducible refine Below.drew ?_) | (with_reducible refine below_drewN ?_ _) | (with_reducible refine Below.setCell ?_ ?_ _) | (with_reducible refine below_after ?_ ?_ _) | (with_reducible refine below_set ?_) | (with_reducible refine After.size_le _ ?_) | (with_reducible refine size_alloc_le ?_) | (with_reducible refine size_set_le ?_) | (with_reducible refine size_drewN_le ?_) | go_size)))) ?_
      intro x1
      go_wp2_with (go_at_call 59; refine (HB.out _).mono ?_; rintro e w1 ⟨rfl, rfl⟩)
      go_returns
      exact ⟨rfl, by (repeat' (first | (with_reducible exact Below.refl _ _) | (with_reducible assumption) | (with_reducible refine Below.alloc ?_ ?_ _) | (with_reducible refine Below.drew ?_) | (with_reducible refine below_drewN ?_ _) | (with_reducible refine Below.setCell ?_ ?_ _) | (with_reducible refine below_after ?_ ?_ _) | (with_reducible refine below_set ?_) | (with_reducible refine After.size_le _ ?_) | (with_reducible refine size_alloc_le ?_) | (with_reducible refine size_set_le ?_) | (with_reducible refine size_drewN_le ?_) | go_size))⟩
end Go.Proofs.YtfmoedlnjlkiiaaDoor
