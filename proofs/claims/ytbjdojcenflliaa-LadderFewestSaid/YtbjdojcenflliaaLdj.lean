/- Joints in memory; valid joints and climbs, in both. -/
import Derived.Test.YtbjdojcenflliaaItz
import Derived.Test.YtbjdojcenflliaaAfter
import Derived.WalkSpells
import Derived.WalkLawsBesides
import Derived.Deep.QuietTactic
import Derived.BigQuiet
import Derived.Deep.RegionWith
import Derived.RegionTactic
import Derived.LoopTactic
import Derived.Lib.Hide
import Derived.KernelRfl
import Derived.Handy
import Derived.StillTailTactics
import Derived.OwnWalk
import Derived.Deep.DeepCutAuto
import Derived.Laws.AppendOwn
import Derived.Laws.AppendOwnNone
import Derived.Laws.OwnMore
import Derived.Deep.AppendLies
import Derived.Lib.SmallJoins
namespace Go.Proofs.Ytbjdojcenflliaa
open Go.RowKit
attribute [local go_sem] After.cell After.frozen After.lt After.le After.ne After.ne' After.set_eq After.size_set After.lt_add

theorem after_ld {W W' : World} (h : Below W.heap.size W W') : ∃ y : After W, W' = y.w := ⟨⟨W', h⟩, rfl⟩
/-- Where a slice's joints (or places) lie. -/
def JtAt (W : World) (a : Option Addr) (n : Nat) (hg : Nat → Int) (sd : Nat → Bool) : Prop := ∀ k, k < n → ∃ b off, a = some ⟨b, off, none⟩ ∧ b < W.heap.size ∧
  W.cell? ⟨b, off + k * 2, none⟩ = some (.int .i64 (hg k)) ∧ W.cell? ⟨b, off + k * 2 + 1, none⟩ = some (.bool (sd k))
theorem JtAt.on {w W : World} {a : Option Addr} {n : Nat} {hg : Nat → Int} {sd : Nat → Bool} (h : JtAt w a n hg sd) (hb : Below w.heap.size w W) : JtAt W a n hg sd := fun k hk => by
  obtain ⟨b, off, e, h1, h2, h3⟩ := h k hk
  exact ⟨b, off, e, Nat.lt_of_lt_of_le h1 hb.size, (hb.cell (p := ⟨b, off + k * 2, none⟩) h1).trans h2, (hb.cell (p := ⟨b, off + k * 2 + 1, none⟩) h1).trans h3⟩
theorem JtAt.fr {M : Nat → Prop} {w W : World} {a : Option Addr} {n : Nat} {hg : Nat → Int} {sd : Nat → Bool} (h : JtAt w a n hg sd) (hf : Fr M w W) (hM : ∀ b off, a = some ⟨b, off, none⟩ → 0 < n → ¬ M b) : JtAt W a n hg sd := fun k hk => by
  obtain ⟨b, off, e, h1, h2, h3⟩ := h k hk
  have nm := hM b off e (by omega)
  exact ⟨b, off, e, Nat.lt_of_lt_of_le h1 hf.size, hf.cell (p := ⟨b, off + k * 2, none⟩) nm h2, hf.cell (p := ⟨b, off + k * 2 + 1, none⟩) nm h3⟩
/-- The height below. -/
def pvH (hg : Nat → Int) (k : Nat) : Int := if k = 0 then 0 else hg (k - 1)
/-- The first k joints are valid. -/
def VjT (k : Nat) (hg : Nat → Int) : Prop := ∀ i, i < k → pvH hg i < hg i ∧ hg i ≤ 200000
instance (k : Nat) (hg : Nat → Int) : Decidable (VjT k hg) := by unfold VjT; infer_instance
def VjP (n : Nat) (hg : Nat → Int) : Prop := n ≤ 200 ∧ VjT n hg
instance (n : Nat) (hg : Nat → Int) : Decidable (VjP n hg) := by unfold VjP; infer_instance
theorem vjT_succ {k : Nat} {hg : Nat → Int} (h : VjT k hg) (h1 : pvH hg k < hg k) (h2 : hg k ≤ 200000) : VjT (k + 1) hg := fun i hi => by
  by_cases e : i = k
  · subst e; exact ⟨h1, h2⟩
  · exact h i (by omega)
theorem vjT_asc {n : Nat} {hg : Nat → Int} (h : VjT n hg) : ∀ d i, i + d < n → 1 ≤ hg i ∧ (0 < d → hg i < hg (i + d))
  | 0, 0, hi => by have := (h 0 (by omega)).1; unfold pvH at this; simp at this; exact ⟨by omega, fun h => absurd h (by omega)⟩
  | 0, i + 1, hi => by
    have h0 := (vjT_asc h 0 i (by omega)).1
    have := (h (i + 1) (by omega)).1
    unfold pvH at this
    rw [if_neg (by omega), Nat.add_sub_cancel] at this
    exact ⟨by omega, fun h => absurd h (by omega)⟩
  | d + 1, i, hi => by
    obtain ⟨h0, h1⟩ := vjT_asc h d i (by omega)
    have := (h (i + (d + 1)) (by omega)).1
    unfold pvH at this
    rw [if_neg (by omega), show i + (d + 1) - 1 = i + d by omega] at this
    refine ⟨h0, fun _ => ?_⟩
    by_cases hd : 0 < d
    · have := h1 hd; omega
    · obtain rfl : d = 0 := by omega
      rw [Nat.add_zero] at this
      exact this
theorem vjT_pos {n : Nat} {hg : Nat → Int} (h : VjT n hg) {i : Nat} (hi : i < n) : 1 ≤ hg i ∧ hg i ≤ 200000 := ⟨(vjT_asc h 0 i (by omega)).1, (h i hi).2⟩
theorem vjT_lt {n : Nat} {hg : Nat → Int} (h : VjT n hg) {i j : Nat} (hij : i < j) (hj : j < n) : hg i < hg j := by
  have := (vjT_asc h (j - i) i (by omega)).2 (by omega)
  rwa [show i + (j - i) = j by omega] at this
def Bt3 (n a b : Int) : Prop := a ≤ n ∧ n ≤ b
instance (n a b : Int) : Decidable (Bt3 n a b) := by unfold Bt3; infer_instance
theorem ret_dec3 {p : Prop} [Decidable p] {a : Bool} (h : a = true ↔ p) : Ending.returned (.bool a) = .returned (.bool (decide p)) := by
  by_cases hp : p
  · simp [hp, h.2 hp]
  · have : a = false := by cases a with | false => rfl | true => exact absurd (h.1 rfl) hp
    simp [hp, this]
theorem between3_any (n a b : Int) (w : World) :
    Calls Try.prog 47 #[.int .i64 n, .int .i64 a, .int .i64 b] w fun e w' => e = .returned (.bool (decide (Bt3 n a b))) ∧ w = w' := by
  go_enter Try.func47, Try.ntmps47
  go_wp2
  all_goals
    go_ret
    exact ⟨ret_dec3 (by unfold Bt3; simp; omega), rfl⟩
theorem within3_any (n a b : Int) (w : World) :
    Calls Try.prog 48 #[.int .i64 n, .int .i64 a, .int .i64 b] w fun e w' => e = .returned (.bool (decide (Bt3 n a b))) ∧ w = w' := by
  go_enter Try.func48, Try.ntmps48
  go_wp2
  all_goals
    go_ret
    exact ⟨ret_dec3 (by unfold Bt3; simp; omega), rfl⟩
theorem between3_b (n a b : Int) (w : World) {x : Bool} (h : decide (Bt3 n a b) = x) : Calls Try.prog 47 #[.int .i64 n, .int .i64 a, .int .i64 b] w fun e w' => e = .returned (.bool x) ∧ w = w' := by
  rw [← h]; exact between3_any n a b w
theorem within3_b (n a b : Int) (w : World) {x : Bool} (h : decide (Bt3 n a b) = x) : Calls Try.prog 48 #[.int .i64 n, .int .i64 a, .int .i64 b] w fun e w' => e = .returned (.bool x) ∧ w = w' := by
  rw [← h]; exact within3_any n a b w
set_option maxRecDepth 100000 in
set_option maxHeartbeats 2000000 in
theorem validJoints_any (a : Option Addr) (n cap : Nat) (hg : Nat → Int) (sd : Nat → Bool) (w : World) (hA : JtAt w a n hg sd) (hn : n ≤ 9223372036854775807) :
    Calls Try.prog 15 #[.slice a n cap] w fun e w' => e = .returned (.bool (decide (VjP n hg))) ∧ Below w.heap.size w w' := by
  have hnI : (n : Int) ≤ 9223372036854775807 := by omega
  have HA := Lib.hid hA
  clear hA
  by_cases h2 : (200 : Int) < (n : Int)
  · have HQ : Hid (decide (VjP n hg) = false) := Lib.hid (decide_eq_false fun h => by have := h.1; omega)
    go_enter Try.func15, Try.ntmps15
    go_wp2
    go_returns
    exact ⟨by rw [HQ.out]; rfl, Below.refl _ _⟩
  · go_enter Try.func15, Try.ntmps15
    go_wp2
    go_loopw [3, 11] (fun b i W => ∃ k : Nat, k ≤ n ∧ i = .int .i64 k ∧ b = .int .i64 (pvH hg k) ∧ Hid (VjT k hg) ∧ ∃ x : After w, W = x.w) (fun _ i _ => n - (intOf i).toNat)
    case atStart => exact ⟨0, Nat.zero_le _, rfl, rfl, Lib.hid (fun i hi => by omega), ⟨w, Below.refl _ _⟩, rfl⟩
    case round =>
      obtain ⟨k, hk, rfl, rfl, HT, x, rfl⟩ := hrel
      by_cases hlt : k < n
      · have hlti : (k : Int) < (n : Int) := by omega
        obtain ⟨b, off, rfl, hb, c0, c1⟩ := HA.out k hlt
        have hp : 0 ≤ pvH hg k ∧ pvH hg k ≤ 200000 := by
          unfold pvH
          split
          · omega
          · have := vjT_pos HT.out (i := k - 1) (by omega); omega
        have HN : Hid (pvH hg (k + 1) = hg k) := Lib.hid (by unfold pvH; rw [if_neg (by omega), Nat.add_sub_cancel])
        have HG : Hid (pvH hg k < hg k → hg k ≤ 200000 → VjT (k + 1) hg) := Lib.hid (vjT_succ HT.out)
        have HF : Hid (¬ (pvH hg k < hg k ∧ hg k ≤ 200000) → decide (VjP n hg) = false) := Lib.hid (fun h => decide_eq_false fun q => h (q.2 k hlt))
        have HB := Lib.hid (fun W => between3_any (hg k) (pvH hg k + 1) 200000 W)
        generalize pvH hg k = pv at *
        generalize hg k = hk' at *
        by_cases hq : pv < hk' ∧ hk' ≤ 200000
        · have e1 : decide (Bt3 hk' (pv + 1) 200000) = true := decide_eq_true (by unfold Bt3; omega)
          rw [e1] at HB
          have HV := Lib.hid (HG.out hq.1 hq.2)
          clear e1 hq HG HF HT
          go_wp2_with (first | (go_at_call 47; refine (HB.out _).mono ?_; rintro e w' ⟨rfl, rfl⟩))
          go_roundw
          case rel => exact ⟨k + 1, by omega, by go_num, by rw [HN.out], HV, ⟨_, x.out.alloc x.out.size _⟩, rfl⟩
          case measure => simp [intOf]; omega
        · have e1 : decide (Bt3 hk' (pv + 1) 200000) = false := decide_eq_false (by unfold Bt3; omega)
          rw [e1] at HB
          have HV := Lib.hid (HF.out hq)
          clear e1 hq HG HF HT
          go_wp2_with (first | (go_at_call 47; refine (HB.out _).mono ?_; rintro e w' ⟨rfl, rfl⟩))
          go_returns
          exact ⟨by rw [HV.out]; rfl, by (repeat' (first | (with_reducible exact Below.refl _ _) | (with_reducible assumption) | (with_reducible refine Below.alloc ?_ ?_ _) | (with_reducible refine Below.drew ?_) | (with_reducible refine below_drewN ?_ _) | (with_reducible refine Below.setCell ?_ ?_ _) | (with_reducible refine below_after ?_ ?_ _) | (with_reducible refine below_set ?_) | (with_reducible refine After.size_le _ ?_) | (with_reducible refine size_alloc_le ?_) | (with_reducible refine size_set_le ?_) | (with_reducible refine size_drewN_le ?_) | go_size))⟩
      · obtain rfl : k = n := by omega
        have HV : Hid (decide (VjP k hg) = true) := Lib.hid (decide_eq_true ⟨by omega, HT.out⟩)
        go_wp2
        go_returns
        exact ⟨by rw [HV.out]; rfl, by (repeat' (first | (with_reducible exact Below.refl _ _) | (with_reducible assumption) | (with_reducible refine Below.alloc ?_ ?_ _) | (with_reducible refine Below.drew ?_) | (with_reducible refine below_drewN ?_ _) | (with_reducible refine Below.setCell ?_ ?_ _) | (with_reducible refine below_after ?_ ?_ _) | (with_reducible refine below_set ?_) | (with_reducible refine After.size_le _ ?_) | (with_reducible refine size_alloc_le ?_) | (with_reducible refine size_set_le ?_) | (with_reducible refine size_drewN_le ?_) | go_size))⟩
set_option maxRecDepth 100000 in
set_option maxHeartbeats 2000000 in
theorem rvalidJoints_any (a : Option Addr) (n cap : Nat) (hg : Nat → Int) (sd : Nat → Bool) (w : World) (hA : JtAt w a n hg sd) (hn : n ≤ 9223372036854775807) :
    Calls Try.prog 16 #[.slice a n cap] w fun e w' => e = .returned (.bool (decide (VjP n hg))) ∧ Below w.heap.size w w' := by
  have hnI : (n : Int) ≤ 9223372036854775807 := by omega
  have HA := Lib.hid hA
  clear hA
  go_enter Try.func16, Try.ntmps16
  go_wp2
  go_loopw [3] (fun i W => ∃ k : Nat, k ≤ n ∧ i = .int .i64 k ∧ Hid (VjT k hg) ∧ ∃ x : After w, W = x.w) (fun i _ => n - (intOf i).toNat)
  case atStart => exact ⟨0, Nat.zero_le _, rfl, Lib.hid (fun i hi => by omega), ⟨w, Below.refl _ _⟩, rfl⟩
  case round =>
    obtain ⟨k, hk, rfl, HT, x, rfl⟩ := hrel
    by_cases hlt : k < n
    · have hlti : (k : Int) < (n : Int) := by omega
      obtain ⟨b, off, rfl, hb, c0, c1⟩ := HA.out k hlt
      have HG : Hid (pvH hg k < hg k → hg k ≤ 200000 → VjT (k + 1) hg) := Lib.hid (vjT_succ HT.out)
      have HF : Hid (¬ (pvH hg k < hg k ∧ hg k ≤ 200000) → decide (VjP n hg) = false) := Lib.hid (fun h => decide_eq_false fun q => h (q.2 k hlt))
      have HB := Lib.hid (fun W => (within3_any (hg k) 1 200000 W).mono (fun e w' h => (⟨h.1, h.2 ▸ Below.refl _ _⟩ : e = .returned (.bool (decide (Bt3 (hg k) 1 200000))) ∧ Below W.heap.size W w')))
      by_cases h0 : k = 0
      · have hk0 : ¬ (0 : Int) < (k : Int) := by omega
        have hkN : decide (0 < k) = false := decide_eq_false (by omega)
        have hp : pvH hg k = 0 := by unfold pvH; rw [if_pos h0]
        rw [hp] at HG HF
        clear h0 hp
        generalize hg k = hk' at *
        by_cases hq : 0 < hk' ∧ hk' ≤ 200000
        · have e1 : decide (Bt3 hk' 1 200000) = true := decide_eq_true (by unfold Bt3; omega)
          rw [e1] at HB
          have HV := Lib.hid (HG.out hq.1 hq.2)
          clear e1 hq HG HF HT
          go_wp2
          refine wp_region_after (by kernel_rfl) (by kernel_rfl) ?_; (repeat (first | go_big_quiet_step ((go_at_call 48; with_reducible exact quiet_after (HB.out _))) | (refine wpQuiet_step (fun K hK => ?_); go_simp; first | (refine hK _ ?_; clear hK K) | (apply Exists.intro; refine ⟨fun x => ?_, hK _ ?_⟩; (go_at_call 48; with_reducible exact quiet_after (HB.out _)); clear hK K)))); refine wpQuiet_nil ?_
          intro y
          go_wp2
          go_roundw
          case rel => exact ⟨k + 1, by omega, by go_num, HV, ⟨_, x.out.trans (y.out.mono x.out.size)⟩, rfl⟩
          case measure => simp [intOf]; omega
        · have e1 : decide (Bt3 hk' 1 200000) = false := decide_eq_false (by unfold Bt3; omega)
          rw [e1] at HB
          have HV := Lib.hid (HF.out hq)
          clear e1 hq HG HF HT
          go_wp2
          refine wp_region_after (by kernel_rfl) (by kernel_rfl) ?_; (repeat (first | go_big_quiet_step ((go_at_call 48; with_reducible exact quiet_after (HB.out _))) | (refine wpQuiet_step (fun K hK => ?_); go_simp; first | (refine hK _ ?_; clear hK K) | (apply Exists.intro; refine ⟨fun x => ?_, hK _ ?_⟩; (go_at_call 48; with_reducible exact quiet_after (HB.out _)); clear hK K)))); refine wpQuiet_nil ?_
          intro y
          go_wp2
          go_returns
          exact ⟨by rw [HV.out]; rfl, by (repeat' (first | (with_reducible exact Below.refl _ _) | (with_reducible assumption) | (with_reducible refine Below.alloc ?_ ?_ _) | (with_reducible refine Below.drew ?_) | (with_reducible refine below_drewN ?_ _) | (with_reducible refine Below.setCell ?_ ?_ _) | (with_reducible refine below_after ?_ ?_ _) | (with_reducible refine below_set ?_) | (with_reducible refine After.size_le _ ?_) | (with_reducible refine size_alloc_le ?_) | (with_reducible refine size_set_le ?_) | (with_reducible refine size_drewN_le ?_) | go_size))⟩
      · obtain ⟨j, rfl⟩ : ∃ j, k = j + 1 := ⟨k - 1, by omega⟩
        have hp : pvH hg (j + 1) = hg j := by unfold pvH; rw [if_neg (by omega), Nat.add_sub_cancel]
        have hpos := vjT_pos HT.out (i := j) (by omega)
        obtain ⟨b', off', e', _, d0, _⟩ := HA.out j (by omega)
        cases e'
        rw [hp] at HG HF
        have hk0 : (0 : Int) < ((j + 1 : Nat) : Int) := by omega
        have hj1 : ((j + 1 : Nat) : Int) - 1 = (j : Int) := by omega
        have hjn : (j : Int) < (n : Int) := by omega
        clear h0 hp
        generalize hg (j + 1) = hk' at *
        generalize hg j = hj' at *
        by_cases hq : hj' < hk' ∧ hk' ≤ 200000
        · have e1 : decide (Bt3 hk' 1 200000) = true := decide_eq_true (by unfold Bt3; omega)
          have e2 : decide (hk' ≤ hj') = false := decide_eq_false (by omega)
          rw [e1] at HB
          have HV := Lib.hid (HG.out hq.1 hq.2)
          clear e1 hq HG HF HT
          go_wp2
          refine wp_region_after (by kernel_rfl) (by kernel_rfl) ?_; (repeat (first | go_big_quiet_step ((go_at_call 48; with_reducible exact quiet_after (HB.out _))) | (refine wpQuiet_step (fun K hK => ?_); go_simp; first | (refine hK _ ?_; clear hK K) | (apply Exists.intro; refine ⟨fun x => ?_, hK _ ?_⟩; (go_at_call 48; with_reducible exact quiet_after (HB.out _)); clear hK K)))); refine wpQuiet_nil ?_
          intro y
          go_wp2
          go_roundw
          case rel => exact ⟨j + 1 + 1, by omega, by go_num, HV, ⟨_, x.out.trans (y.out.mono x.out.size)⟩, rfl⟩
          case measure => simp [intOf]; omega
        · have HV := Lib.hid (HF.out hq)
          by_cases h2 : Bt3 hk' 1 200000
          · have e1 : decide (Bt3 hk' 1 200000) = true := decide_eq_true h2
            have e2 : hk' ≤ hj' := by unfold Bt3 at h2; omega
            rw [e1] at HB
            clear e1 hq HG HF HT h2
            go_wp2
            refine wp_region_after (by kernel_rfl) (by kernel_rfl) ?_; (repeat (first | go_big_quiet_step ((go_at_call 48; with_reducible exact quiet_after (HB.out _))) | (refine wpQuiet_step (fun K hK => ?_); go_simp; first | (refine hK _ ?_; clear hK K) | (apply Exists.intro; refine ⟨fun x => ?_, hK _ ?_⟩; (go_at_call 48; with_reducible exact quiet_after (HB.out _)); clear hK K)))); refine wpQuiet_nil ?_
            intro y
            go_wp2
            go_returns
            exact ⟨by rw [HV.out]; rfl, by (repeat' (first | (with_reducible exact Below.refl _ _) | (with_reducible assumption) | (with_reducible refine Below.alloc ?_ ?_ _) | (with_reducible refine Below.drew ?_) | (with_reducible refine below_drewN ?_ _) | (with_reducible refine Below.setCell ?_ ?_ _) | (with_reducible refine below_after ?_ ?_ _) | (with_reducible refine below_set ?_) | (with_reducible refine After.size_le _ ?_) | (with_reducible refine size_alloc_le ?_) | (with_reducible refine size_set_le ?_) | (with_reducible refine size_drewN_le ?_) | go_size))⟩
          · have e1 : decide (Bt3 hk' 1 200000) = false := decide_eq_false h2
            rw [e1] at HB
            clear e1 hq HG HF HT h2
            go_wp2
            refine wp_region_after (by kernel_rfl) (by kernel_rfl) ?_; (repeat (first | go_big_quiet_step ((go_at_call 48; with_reducible exact quiet_after (HB.out _))) | (refine wpQuiet_step (fun K hK => ?_); go_simp; first | (refine hK _ ?_; clear hK K) | (apply Exists.intro; refine ⟨fun x => ?_, hK _ ?_⟩; (go_at_call 48; with_reducible exact quiet_after (HB.out _)); clear hK K)))); refine wpQuiet_nil ?_
            intro y
            go_wp2
            go_returns
            exact ⟨by rw [HV.out]; rfl, by (repeat' (first | (with_reducible exact Below.refl _ _) | (with_reducible assumption) | (with_reducible refine Below.alloc ?_ ?_ _) | (with_reducible refine Below.drew ?_) | (with_reducible refine below_drewN ?_ _) | (with_reducible refine Below.setCell ?_ ?_ _) | (with_reducible refine below_after ?_ ?_ _) | (with_reducible refine below_set ?_) | (with_reducible refine After.size_le _ ?_) | (with_reducible refine size_alloc_le ?_) | (with_reducible refine size_set_le ?_) | (with_reducible refine size_drewN_le ?_) | go_size))⟩
    · obtain rfl : k = n := by omega
      have HV : Hid (decide (VjP k hg) = decide ((k : Int) ≤ 200)) := Lib.hid (by
        rw [Bool.eq_iff_iff]
        simp only [decide_eq_true_eq]
        exact ⟨fun h => by have := h.1; omega, fun h => ⟨by omega, HT.out⟩⟩)
      go_wp2
      go_returns
      exact ⟨by rw [HV.out]; rfl, by (repeat' (first | (with_reducible exact Below.refl _ _) | (with_reducible assumption) | (with_reducible refine Below.alloc ?_ ?_ _) | (with_reducible refine Below.drew ?_) | (with_reducible refine below_drewN ?_ _) | (with_reducible refine Below.setCell ?_ ?_ _) | (with_reducible refine below_after ?_ ?_ _) | (with_reducible refine below_set ?_) | (with_reducible refine After.size_le _ ?_) | (with_reducible refine size_alloc_le ?_) | (with_reducible refine size_set_le ?_) | (with_reducible refine size_drewN_le ?_) | go_size))⟩
def VcP (fi ga tp le lp sg : Int) : Prop := Bt3 fi 1 200000 ∧ Bt3 ga 1 200000 ∧ Bt3 tp 1 200000 ∧ Bt3 le 1 200000 ∧ Bt3 lp 0 (le - 1) ∧ Bt3 sg 1 1000000
instance (fi ga tp le lp sg : Int) : Decidable (VcP fi ga tp le lp sg) := by unfold VcP; infer_instance
/-- The k-th of four numbers. -/
def v4 (fi ga tp le : Int) : Nat → Int
  | 0 => fi
  | 1 => ga
  | 2 => tp
  | _ => le
theorem arr4_index (fi ga tp le : Int) {k : Nat} (hk : k < 4) (W : World) : (Instr.index 55 (.agg #[.int .i64 fi, .int .i64 ga, .int .i64 tp, .int .i64 le]) (.int .i64 (k : Nat))).run Try.prog W = .ok (.int .i64 (v4 fi ga tp le k)) W := by
  have he : [Value.int .i64 fi, Value.int .i64 ga, Value.int .i64 tp, Value.int .i64 le][k]? = some (.int .i64 (v4 fi ga tp le k)) := by
    match k, hk with
    | 0, _ => rfl
    | 1, _ => rfl
    | 2, _ => rfl
    | 3, _ => rfl
  simp [Instr.index, part, asIntOf, go_sem, hk]
  exact (List.getElem?_eq_some_iff.1 he).2
set_option maxRecDepth 100000 in
set_option maxHeartbeats 2000000 in
theorem validClimb_any (fi ga tp le lp sg : Int) (w : World) :
    Calls Try.prog 17 #[.agg #[.int .i64 fi, .int .i64 ga, .int .i64 tp, .int .i64 le, .int .i64 lp, .int .i64 sg]] w fun e w' => e = .returned (.bool (decide (VcP fi ga tp le lp sg))) ∧ Below w.heap.size w w' := by
  go_enter Try.func17, Try.ntmps17
  go_wp2
  go_loopw [14] (fun i W => ∃ k : Nat, k ≤ 4 ∧ i = .int .i64 k ∧ Hid (∀ j, j < k → Bt3 (v4 fi ga tp le j) 1 200000) ∧ W = w.alloc (.cells #[.int .i64 fi, .int .i64 ga, .int .i64 tp, .int .i64 le, .int .i64 lp, .int .i64 sg] 23)) (fun i _ => 4 - (intOf i).toNat)
  case atStart => exact ⟨0, by omega, rfl, Lib.hid (fun j hj => by omega), rfl⟩
  case round =>
    obtain ⟨k, hk, rfl, HT, rfl⟩ := hrel
    by_cases hlt : k < 4
    · have hlti : (k : Int) < 4 := by omega
      have hix := arr4_index fi ga tp le hlt
      have HF : Hid (¬ Bt3 (v4 fi ga tp le k) 1 200000 → decide (VcP fi ga tp le lp sg) = false) := Lib.hid (fun h => decide_eq_false fun q => h (by
        obtain ⟨a0, a1, a2, a3, _⟩ := q
        match k, hlt with
        | 0, _ => exact a0
        | 1, _ => exact a1
        | 2, _ => exact a2
        | 3, _ => exact a3))
      have HG : Hid (Bt3 (v4 fi ga tp le k) 1 200000 → ∀ j, j < k + 1 → Bt3 (v4 fi ga tp le j) 1 200000) := Lib.hid (fun h j hj => by
        by_cases e : j = k
        · subst e; exact h
        · exact HT.out j (by omega))
      generalize v4 fi ga tp le k = v at *
      cases hq : decide (Bt3 v 1 200000)
      · have HV := Lib.hid (HF.out (of_decide_eq_false hq))
        have HB := Lib.hid (fun W => between3_b v 1 200000 W hq)
        clear hq
        go_wp2_with (first | (go_at_call 47; refine (HB.out _).mono ?_; rintro e w' ⟨rfl, rfl⟩))
        go_returns
        exact ⟨by rw [HV.out]; rfl, by (repeat' (first | (with_reducible exact Below.refl _ _) | (with_reducible assumption) | (with_reducible refine Below.alloc ?_ ?_ _) | (with_reducible refine Below.drew ?_) | (with_reducible refine below_drewN ?_ _) | (with_reducible refine Below.setCell ?_ ?_ _) | (with_reducible refine below_after ?_ ?_ _) | (with_reducible refine below_set ?_) | (with_reducible refine After.size_le _ ?_) | (with_reducible refine size_alloc_le ?_) | (with_reducible refine size_set_le ?_) | (with_reducible refine size_drewN_le ?_) | go_size))⟩
      · have HV := Lib.hid (HG.out (of_decide_eq_true hq))
        have HB := Lib.hid (fun W => between3_b v 1 200000 W hq)
        clear hq
        go_wp2_with (first | (go_at_call 47; refine (HB.out _).mono ?_; rintro e w' ⟨rfl, rfl⟩))
        go_roundw
        case rel => exact ⟨k + 1, by omega, by go_num, HV, by first | rfl | trivial⟩
        case measure => simp [intOf]; omega
    · obtain rfl : k = 4 := by omega
      have HC : Hid (Bt3 fi 1 200000 ∧ Bt3 ga 1 200000 ∧ Bt3 tp 1 200000 ∧ Bt3 le 1 200000) := Lib.hid ⟨HT.out 0 (by omega), HT.out 1 (by omega), HT.out 2 (by omega), HT.out 3 (by omega)⟩
      have hle : 1 ≤ le ∧ le ≤ 200000 := by have := HC.out.2.2.2; unfold Bt3 at this; exact this
      obtain ⟨hle0, hle1⟩ := hle
      cases hq : decide (Bt3 lp 0 (le - 1))
      · have HV : Hid (decide (VcP fi ga tp le lp sg) = false) := Lib.hid (decide_eq_false fun h => absurd h.2.2.2.2.1 (of_decide_eq_false hq))
        have HB := Lib.hid (fun W => between3_b lp 0 (le - 1) W hq)
        clear hq
        go_wp2_with (first | (go_at_call 47; refine (HB.out _).mono ?_; rintro e w' ⟨rfl, rfl⟩))
        go_returns
        exact ⟨by rw [HV.out]; rfl, by (repeat' (first | (with_reducible exact Below.refl _ _) | (with_reducible assumption) | (with_reducible refine Below.alloc ?_ ?_ _) | (with_reducible refine Below.drew ?_) | (with_reducible refine below_drewN ?_ _) | (with_reducible refine Below.setCell ?_ ?_ _) | (with_reducible refine below_after ?_ ?_ _) | (with_reducible refine below_set ?_) | (with_reducible refine After.size_le _ ?_) | (with_reducible refine size_alloc_le ?_) | (with_reducible refine size_set_le ?_) | (with_reducible refine size_drewN_le ?_) | go_size))⟩
      · have HL := Lib.hid (of_decide_eq_true hq)
        have HB := Lib.hid (fun W => between3_b lp 0 (le - 1) W hq)
        have HB2 := Lib.hid (fun W => between3_any sg 1 1000000 W)
        have HV : Hid (decide (VcP fi ga tp le lp sg) = decide (Bt3 sg 1 1000000)) := Lib.hid (by
          rw [Bool.eq_iff_iff]
          simp only [decide_eq_true_eq]
          exact ⟨fun h => h.2.2.2.2.2, fun h => ⟨HC.out.1, HC.out.2.1, HC.out.2.2.1, HC.out.2.2.2, HL.out, h⟩⟩)
        clear hq
        go_wp2_with (first | (go_at_call 47; (first | with_reducible refine (HB.out _).mono ?_ | with_reducible refine (HB2.out _).mono ?_); rintro e w' ⟨rfl, rfl⟩))
        go_returns
        exact ⟨by rw [HV.out]; rfl, by (repeat' (first | (with_reducible exact Below.refl _ _) | (with_reducible assumption) | (with_reducible refine Below.alloc ?_ ?_ _) | (with_reducible refine Below.drew ?_) | (with_reducible refine below_drewN ?_ _) | (with_reducible refine Below.setCell ?_ ?_ _) | (with_reducible refine below_after ?_ ?_ _) | (with_reducible refine below_set ?_) | (with_reducible refine After.size_le _ ?_) | (with_reducible refine size_alloc_le ?_) | (with_reducible refine size_set_le ?_) | (with_reducible refine size_drewN_le ?_) | go_size))⟩
set_option maxRecDepth 100000 in
theorem rvalidClimb_any (fi ga tp le lp sg : Int) (w : World) :
    Calls Try.prog 18 #[.agg #[.int .i64 fi, .int .i64 ga, .int .i64 tp, .int .i64 le, .int .i64 lp, .int .i64 sg]] w fun e w' => e = .returned (.bool (decide (VcP fi ga tp le lp sg))) ∧ Below w.heap.size w w' := by
  go_enter Try.func18, Try.ntmps18
  go_wp2
  all_goals
    go_ret
    refine ⟨?_, by (repeat' (first | (with_reducible exact Below.refl _ _) | (with_reducible assumption) | (with_reducible refine Below.alloc ?_ ?_ _) | (with_reducible refine Below.drew ?_) | (with_reducible refine below_drewN ?_ _) | (with_reducible refine Below.setCell ?_ ?_ _) | (with_reducible refine below_after ?_ ?_ _) | (with_reducible refine below_set ?_) | (with_reducible refine After.size_le _ ?_) | (with_reducible refine size_alloc_le ?_) | (with_reducible refine size_set_le ?_) | (with_reducible refine size_drewN_le ?_) | go_size))⟩
    first
      | (rw [decide_eq_true (show VcP fi ga tp le lp sg from by unfold VcP Bt3; omega)]; rfl)
      | (rw [decide_eq_false (show ¬ VcP fi ga tp le lp sg from by unfold VcP Bt3; omega)]; rfl)
      | (rw [show decide (VcP fi ga tp le lp sg) = decide (sg ≤ 1000000) from by rw [Bool.eq_iff_iff]; simp only [decide_eq_true_eq]; unfold VcP Bt3; omega]; rfl)
end Go.Proofs.Ytbjdojcenflliaa
