/- Marks as arguments and in memory, and what both Valid say: for the seat of the texts (after L1's XTests, XMks and XMkArg, with only what that seat holds). -/
import Derived.Test.YtldopcneellfbaaGreatDoorDig
import Derived.Test.YtldopcneellfbaaGreatDoorSlices
import Derived.Deep.AppendLies
import Derived.Laws.OwnMore
import Derived.Lib.SmallJoins
import Derived.OpenShut
import Derived.ProofKit
namespace Go.Proofs.YtldopcneellfbaaGreatDoor
open Go.RowKit Go.ChangeShapes Go.WideShapes Go.Joins Go.Deep

theorem ret_bool {a b : Bool} (h : a = b) : Ending.returned (.bool a) = .returned (.bool b) := by rw [h]
theorem ret_dec {p : Prop} [Decidable p] {a : Bool} (h : a = true ↔ p) : Ending.returned (.bool a) = .returned (.bool (decide p)) := by
  by_cases hp : p
  · simp [hp, h.2 hp]
  · have : a = false := by cases a with | false => rfl | true => exact absurd (h.1 rfl) hp
    simp [hp, this]
/-- A mark's numbers are in their bounds. -/
def InMk (h x y : Int) : Prop := 0 ≤ h ∧ h ≤ 200000 ∧ -10000 ≤ x ∧ x ≤ 10000 ∧ -10000 ≤ y ∧ y ≤ 10000
instance (h x y : Int) : Decidable (InMk h x y) := by unfold InMk; infer_instance

set_option maxHeartbeats 400000 in
theorem validMark_any (h x y : Int) (w : World) :
    Calls Tryz.prog 35 #[.agg #[.int .i64 h, .int .i64 x, .int .i64 y]] w fun e w' => e = .returned (.bool (decide (InMk h x y))) ∧ Below w.heap.size w w' := by
  go_enter Tryz.func35, Tryz.ntmps35
  go_wp2
  all_goals
    go_ret
    exact ⟨ret_dec (by unfold InMk; simp; omega), by go_grown⟩
set_option maxHeartbeats 400000 in
theorem rvalidMark_any (h x y : Int) (w : World) :
    Calls Tryz.prog 37 #[.agg #[.int .i64 h, .int .i64 x, .int .i64 y]] w fun e w' => e = .returned (.bool (decide (InMk h x y))) ∧ Below w.heap.size w w' := by
  go_enter Tryz.func37, Tryz.ntmps37
  go_wp2
  all_goals
    go_ret
    exact ⟨ret_dec (by unfold InMk; simp; omega), by go_grown⟩
theorem validMark_t (h x y : Int) (w : World) (hp : InMk h x y) :
    Calls Tryz.prog 35 #[.agg #[.int .i64 h, .int .i64 x, .int .i64 y]] w fun e w' => e = .returned (.bool true) ∧ Below w.heap.size w w' :=
  (validMark_any h x y w).mono fun _ _ ⟨h1, h2⟩ => ⟨by rw [h1]; simp [hp], h2⟩
theorem validMark_f (h x y : Int) (w : World) (hp : ¬ InMk h x y) :
    Calls Tryz.prog 35 #[.agg #[.int .i64 h, .int .i64 x, .int .i64 y]] w fun e w' => e = .returned (.bool false) ∧ Below w.heap.size w w' :=
  (validMark_any h x y w).mono fun _ _ ⟨h1, h2⟩ => ⟨by rw [h1]; simp [hp], h2⟩
theorem rvalidMark_t (h x y : Int) (w : World) (hp : InMk h x y) :
    Calls Tryz.prog 37 #[.agg #[.int .i64 h, .int .i64 x, .int .i64 y]] w fun e w' => e = .returned (.bool true) ∧ Below w.heap.size w w' :=
  (rvalidMark_any h x y w).mono fun _ _ ⟨h1, h2⟩ => ⟨by rw [h1]; simp [hp], h2⟩
theorem rvalidMark_f (h x y : Int) (w : World) (hp : ¬ InMk h x y) :
    Calls Tryz.prog 37 #[.agg #[.int .i64 h, .int .i64 x, .int .i64 y]] w fun e w' => e = .returned (.bool false) ∧ Below w.heap.size w w' :=
  (rvalidMark_any h x y w).mono fun _ _ ⟨h1, h2⟩ => ⟨by rw [h1]; simp [hp], h2⟩

attribute [local go_sem] After.cell After.frozen After.lt After.le After.ne After.ne' After.set_eq After.size_set After.lt_add

/-- Marks lie in memory: the three numbers of each. -/
def MkCells (W : World) (b off n : Nat) (f : Nat → Nat → Int) : Prop :=
  ∀ i, i < n → W.cell? ⟨b, off + i * 3, none⟩ = some (.int .i64 (f i 0)) ∧ W.cell? ⟨b, off + i * 3 + 1, none⟩ = some (.int .i64 (f i 1)) ∧ W.cell? ⟨b, off + i * 3 + 2, none⟩ = some (.int .i64 (f i 2))
theorem MkCells.on {w W : World} {b off n : Nat} {f : Nat → Nat → Int} (h : MkCells w b off n f) (hb : b < w.heap.size) (hW : Below w.heap.size w W) : MkCells W b off n f :=
  fun i hi => ⟨(hW.cell (p := ⟨b, _, none⟩) hb).trans (h i hi).1, (hW.cell (p := ⟨b, _, none⟩) hb).trans (h i hi).2.1, (hW.cell (p := ⟨b, _, none⟩) hb).trans (h i hi).2.2⟩
def OkM (f : Nat → Nat → Int) (k : Nat) : Prop := InMk (f k 0) (f k 1) (f k 2) ∧ (0 < k → f (k - 1) 0 < f k 0)
instance (f : Nat → Nat → Int) (k : Nat) : Decidable (OkM f k) := by unfold OkM; infer_instance
def GoodM (n : Nat) (f : Nat → Nat → Int) : Prop := 1 ≤ n ∧ n ≤ 40 ∧ ∀ k, k < n → OkM f k
instance (n : Nat) (f : Nat → Nat → Int) : Decidable (GoodM n f) := by unfold GoodM; infer_instance
/-- Whether one mark may follow. -/
def FolM (k : Nat) (p h e n : Int) : Prop := k < 40 ∧ InMk h e n ∧ (0 < k → p < h)
instance (k : Nat) (p h e n : Int) : Decidable (FolM k p h e n) := by unfold FolM; infer_instance

set_option maxRecDepth 100000 in
set_option maxHeartbeats 1000000 in
theorem follows_any (b off cap k : Nat) (p h e n : Int) (w : World) (hb : b < w.heap.size) (hk : k ≤ 1000) (hp : 0 < k → w.cell? ⟨b, off + (k - 1) * 3, none⟩ = some (.int .i64 p)) :
    Calls Tryz.prog 13 #[.slice (some ⟨b, off, none⟩) k cap, .agg #[.int .i64 h, .int .i64 e, .int .i64 n]] w fun x w' => x = .returned (.bool (decide (FolM k p h e n))) ∧ Below w.heap.size w w' := by
  have hbs : b < w.heap.size + 1 := by omega
  by_cases h40 : k < 40
  · have k40 : (k : Int) < 40 := by omega
    by_cases hm : InMk h e n
    · have HM := Lib.hid (fun w => validMark_t h e n w hm)
      have Hm := Lib.hid hm
      have H40 := Lib.hid h40
      clear hm h40
      by_cases h0 : 0 < k
      · have c := hp h0
        have k0 : ((k : Int) == 0) = false := beq_eq_false_iff_ne.2 (by omega)
        have k1 : (1 : Int) ≤ (k : Int) := by omega
        have k2 : ((k : Int) - 1).toNat = k - 1 := by omega
        clear hp
        go_enter Tryz.func13, Tryz.ntmps13
        go_wp2_with fail
        refine wp_region_after (by kernel_rfl) (by kernel_rfl) ?_; (repeat (first | go_big_quiet_step (((go_at_call 35; exact quiet_after (HM.out _)))) | (refine wpQuiet_step (fun K hK => ?_); go_simp; first | (refine hK _ ?_; clear hK K) | (apply Exists.intro; refine ⟨fun x => ?_, hK _ ?_⟩; ((go_at_call 35; exact quiet_after (HM.out _))); clear hK K)))); refine wpQuiet_nil ?_
        intro x1
        go_wp2
        go_ret
        exact ⟨ret_dec (by rw [decide_eq_true_iff]; exact ⟨fun h => ⟨H40.out, Hm.out, fun _ => h⟩, fun h => h.2.2 h0⟩), by (repeat' (first | (with_reducible exact Below.refl _ _) | (with_reducible assumption) | (with_reducible refine Below.alloc ?_ ?_ _) | (with_reducible refine Below.drew ?_) | (with_reducible refine below_drewN ?_ _) | (with_reducible refine Below.setCell ?_ ?_ _) | (with_reducible refine below_after ?_ ?_ _) | (with_reducible refine below_set ?_) | (with_reducible refine After.size_le _ ?_) | (with_reducible refine size_alloc_le ?_) | (with_reducible refine size_set_le ?_) | (with_reducible refine size_drewN_le ?_) | go_size))⟩
      · obtain rfl : k = 0 := by omega
        clear hp
        go_enter Tryz.func13, Tryz.ntmps13
        go_wp2_with fail
        refine wp_region_after (by kernel_rfl) (by kernel_rfl) ?_; (repeat (first | go_big_quiet_step (((go_at_call 35; exact quiet_after (HM.out _)))) | (refine wpQuiet_step (fun K hK => ?_); go_simp; first | (refine hK _ ?_; clear hK K) | (apply Exists.intro; refine ⟨fun x => ?_, hK _ ?_⟩; ((go_at_call 35; exact quiet_after (HM.out _))); clear hK K)))); refine wpQuiet_nil ?_
        intro x1
        go_wp2
        go_ret
        exact ⟨ret_dec ⟨fun _ => ⟨H40.out, Hm.out, fun h => absurd h (by omega)⟩, fun _ => rfl⟩, by (repeat' (first | (with_reducible exact Below.refl _ _) | (with_reducible assumption) | (with_reducible refine Below.alloc ?_ ?_ _) | (with_reducible refine Below.drew ?_) | (with_reducible refine below_drewN ?_ _) | (with_reducible refine Below.setCell ?_ ?_ _) | (with_reducible refine below_after ?_ ?_ _) | (with_reducible refine below_set ?_) | (with_reducible refine After.size_le _ ?_) | (with_reducible refine size_alloc_le ?_) | (with_reducible refine size_set_le ?_) | (with_reducible refine size_drewN_le ?_) | go_size))⟩
    · have HM := Lib.hid (fun w => validMark_f h e n w hm)
      have Hm := Lib.hid hm
      clear hm h40 hp
      go_enter Tryz.func13, Tryz.ntmps13
      go_wp2_with fail
      refine wp_region_after (by kernel_rfl) (by kernel_rfl) ?_; (repeat (first | go_big_quiet_step (((go_at_call 35; exact quiet_after (HM.out _)))) | (refine wpQuiet_step (fun K hK => ?_); go_simp; first | (refine hK _ ?_; clear hK K) | (apply Exists.intro; refine ⟨fun x => ?_, hK _ ?_⟩; ((go_at_call 35; exact quiet_after (HM.out _))); clear hK K)))); refine wpQuiet_nil ?_
      intro x1
      go_wp2
      go_ret
      exact ⟨ret_dec (by simp; exact fun h => Hm.out h.2.1), by (repeat' (first | (with_reducible exact Below.refl _ _) | (with_reducible assumption) | (with_reducible refine Below.alloc ?_ ?_ _) | (with_reducible refine Below.drew ?_) | (with_reducible refine below_drewN ?_ _) | (with_reducible refine Below.setCell ?_ ?_ _) | (with_reducible refine below_after ?_ ?_ _) | (with_reducible refine below_set ?_) | (with_reducible refine After.size_le _ ?_) | (with_reducible refine size_alloc_le ?_) | (with_reducible refine size_set_le ?_) | (with_reducible refine size_drewN_le ?_) | go_size))⟩
  · have k40 : decide ((k : Int) < 40) = false := by simp; omega
    have H40 := Lib.hid h40
    clear h40 hp
    go_enter Tryz.func13, Tryz.ntmps13
    go_wp2_with fail
    refine wp_region_after (by kernel_rfl) (by kernel_rfl) ?_; (repeat (first | go_big_quiet_step (((go_at_call 35; fail))) | (refine wpQuiet_step (fun K hK => ?_); go_simp; first | (refine hK _ ?_; clear hK K) | (apply Exists.intro; refine ⟨fun x => ?_, hK _ ?_⟩; ((go_at_call 35; fail)); clear hK K)))); refine wpQuiet_nil ?_
    intro x1
    go_wp2
    go_ret
    exact ⟨ret_dec (by simp; exact fun h => H40.out h.1), by (repeat' (first | (with_reducible exact Below.refl _ _) | (with_reducible assumption) | (with_reducible refine Below.alloc ?_ ?_ _) | (with_reducible refine Below.drew ?_) | (with_reducible refine below_drewN ?_ _) | (with_reducible refine Below.setCell ?_ ?_ _) | (with_reducible refine below_after ?_ ?_ _) | (with_reducible refine below_set ?_) | (with_reducible refine After.size_le _ ?_) | (with_reducible refine size_alloc_le ?_) | (with_reducible refine size_set_le ?_) | (with_reducible refine size_drewN_le ?_) | go_size))⟩

theorem fol_ok {n k : Nat} {f : Nat → Nat → Int} (hk : k < n) (hG : GoodM n f) : FolM k (f (k - 1) 0) (f k 0) (f k 1) (f k 2) :=
  ⟨by have := hG.2.1; omega, (hG.2.2 k hk).1, (hG.2.2 k hk).2⟩

set_option maxRecDepth 100000 in
set_option maxHeartbeats 1000000 in
theorem valid_any (b off cap n : Nat) (f : Nat → Nat → Int) (w : World) (hb : b < w.heap.size) (hn : 1 ≤ n) (hlen : n ≤ 1000) (hcap : n ≤ cap) (hcm : cap ≤ 9223372036854775807) (hc : MkCells w b off n f) :
    Calls Tryz.prog 17 #[.slice (some ⟨b, off, none⟩) n cap] w fun e w' => e = .returned (.bool (decide (GoodM n f))) ∧ Below w.heap.size w w' := by
  have HC := Lib.hid hc
  clear hc
  go_enter Tryz.func17, Tryz.ntmps17
  go_wp2
  go_loopw [3, 4, 7] (fun i3 i4 i wr => ∃ k : Nat, k ≤ n ∧ i = .int .i64 k ∧ (∀ j, j < k → FolM j (f (j - 1) 0) (f j 0) (f j 1) (f j 2)) ∧ ∃ x : After w, wr = x.w) (fun _ _ i _ => n - (intOf i).toNat)
  case atStart => exact ⟨0, by omega, rfl, fun j hj => absurd hj (by omega), ⟨w, Below.refl _ _⟩, rfl⟩
  case round =>
    obtain ⟨k, hk, rfl, ho, x, rfl⟩ := hrel
    have hbx := x.size_lt hb
    have HO := Lib.hid ho
    clear ho
    by_cases hlt : k < n
    · obtain ⟨c1, c2, c3⟩ := HC.out k hlt
      have HFl : Hid (∀ W, Below w.heap.size w W → _) := fun W hW => follows_any b off cap k (f (k - 1) 0) (f k 0) (f k 1) (f k 2) W (Nat.lt_of_lt_of_le hb hW.size) (by omega) (fun h0 => ((HC.out.on hb hW) (k - 1) (by omega)).1)
      have hkc : (k : Int) ≤ (cap : Int) := by omega
      have HK := Lib.hid (fun hG => fol_ok (f := f) hlt hG)
      by_cases hF : FolM k (f (k - 1) 0) (f k 0) (f k 1) (f k 2)
      · have HF := Lib.hid hF
        rw [decide_eq_true hF] at HFl
        clear hF
        go_wp2_with fail
        refine wp_region_after (by kernel_rfl) (by kernel_rfl) ?_; (repeat (first | go_big_quiet_step (((go_at_call 13; refine quiet_after (HFl.out _ ?_); (repeat' (first | (with_reducible exact Below.refl _ _) | (with_reducible assumption) | (with_reducible refine Below.alloc ?_ ?_ _) | (with_reducible refine Below.drew ?_) | (with_reducible refine below_drewN ?_ _) | (with_reducible refine Below.setCell ?_ ?_ _) | (with_reducible refine below_after ?_ ?_ _) | (with_reducible refine below_set ?_) | (with_reducible refine After.size_le _ ?_) | (with_reducible refine size_alloc_le ?_) | (with_reducible refine size_set_le ?_) | (with_reducible refine size_drewN_le ?_) | go_size))))) | (refine wpQuiet_step (fun K hK => ?_); go_simp; first | (refine hK _ ?_; clear hK K) | (apply Exists.intro; refine ⟨fun x => ?_, hK _ ?_⟩; ((go_at_call 13; refine quiet_after (HFl.out _ ?_); (repeat' (first | (with_reducible exact Below.refl _ _) | (with_reducible assumption) | (with_reducible refine Below.alloc ?_ ?_ _) | (with_reducible refine Below.drew ?_) | (with_reducible refine below_drewN ?_ _) | (with_reducible refine Below.setCell ?_ ?_ _) | (with_reducible refine below_after ?_ ?_ _) | (with_reducible refine below_set ?_) | (with_reducible refine After.size_le _ ?_) | (with_reducible refine size_alloc_le ?_) | (with_reducible refine size_set_le ?_) | (with_reducible refine size_drewN_le ?_) | go_size)))); clear hK K)))); refine wpQuiet_nil ?_
        intro y
        go_wp2
        go_roundw
        case rel => exact ⟨k + 1, by omega, by go_num, fun j hj => by
          rcases Nat.lt_or_ge j k with hj' | hj'
          · exact HO.out j hj'
          · obtain rfl : j = k := by omega
            exact HF.out, ⟨_, below_after (x.out.alloc x.out.size _) (by simp; exact Nat.le_succ_of_le x.out.size) y⟩, rfl⟩
        case measure => simp [intOf]; omega
      · have HF := Lib.hid hF
        rw [decide_eq_false hF] at HFl
        clear hF
        go_wp2_with fail
        refine wp_region_after (by kernel_rfl) (by kernel_rfl) ?_; (repeat (first | go_big_quiet_step (((go_at_call 13; refine quiet_after (HFl.out _ ?_); (repeat' (first | (with_reducible exact Below.refl _ _) | (with_reducible assumption) | (with_reducible refine Below.alloc ?_ ?_ _) | (with_reducible refine Below.drew ?_) | (with_reducible refine below_drewN ?_ _) | (with_reducible refine Below.setCell ?_ ?_ _) | (with_reducible refine below_after ?_ ?_ _) | (with_reducible refine below_set ?_) | (with_reducible refine After.size_le _ ?_) | (with_reducible refine size_alloc_le ?_) | (with_reducible refine size_set_le ?_) | (with_reducible refine size_drewN_le ?_) | go_size))))) | (refine wpQuiet_step (fun K hK => ?_); go_simp; first | (refine hK _ ?_; clear hK K) | (apply Exists.intro; refine ⟨fun x => ?_, hK _ ?_⟩; ((go_at_call 13; refine quiet_after (HFl.out _ ?_); (repeat' (first | (with_reducible exact Below.refl _ _) | (with_reducible assumption) | (with_reducible refine Below.alloc ?_ ?_ _) | (with_reducible refine Below.drew ?_) | (with_reducible refine below_drewN ?_ _) | (with_reducible refine Below.setCell ?_ ?_ _) | (with_reducible refine below_after ?_ ?_ _) | (with_reducible refine below_set ?_) | (with_reducible refine After.size_le _ ?_) | (with_reducible refine size_alloc_le ?_) | (with_reducible refine size_set_le ?_) | (with_reducible refine size_drewN_le ?_) | go_size)))); clear hK K)))); refine wpQuiet_nil ?_
        intro y
        go_wp2
        go_ret
        exact ⟨ret_dec (by simp; exact fun hG => HF.out (HK.out hG)), by (repeat' (first | (with_reducible exact Below.refl _ _) | (with_reducible assumption) | (with_reducible refine Below.alloc ?_ ?_ _) | (with_reducible refine Below.drew ?_) | (with_reducible refine below_drewN ?_ _) | (with_reducible refine Below.setCell ?_ ?_ _) | (with_reducible refine below_after ?_ ?_ _) | (with_reducible refine below_set ?_) | (with_reducible refine After.size_le _ ?_) | (with_reducible refine size_alloc_le ?_) | (with_reducible refine size_set_le ?_) | (with_reducible refine size_drewN_le ?_) | go_size))⟩
    · obtain rfl : k = n := by omega
      go_wp2
      go_ret
      exact ⟨ret_dec ⟨fun _ => ⟨hn, by have := (HO.out (k - 1) (by omega)).1; omega, fun j hj => ⟨(HO.out j hj).2.1, (HO.out j hj).2.2⟩⟩, fun _ => by simp; omega⟩, by (repeat' (first | (with_reducible exact Below.refl _ _) | (with_reducible assumption) | (with_reducible refine Below.alloc ?_ ?_ _) | (with_reducible refine Below.drew ?_) | (with_reducible refine below_drewN ?_ _) | (with_reducible refine Below.setCell ?_ ?_ _) | (with_reducible refine below_after ?_ ?_ _) | (with_reducible refine below_set ?_) | (with_reducible refine After.size_le _ ?_) | (with_reducible refine size_alloc_le ?_) | (with_reducible refine size_set_le ?_) | (with_reducible refine size_drewN_le ?_) | go_size))⟩

set_option maxRecDepth 100000 in
set_option maxHeartbeats 1000000 in
theorem rvalid_any (b off cap n : Nat) (f : Nat → Nat → Int) (w : World) (hb : b < w.heap.size) (hlen : n ≤ 1000) (hc : MkCells w b off n f) :
    Calls Tryz.prog 16 #[.slice (some ⟨b, off, none⟩) n cap] w fun e w' => e = .returned (.bool (decide (GoodM n f))) ∧ Below w.heap.size w w' := by
  have HC := Lib.hid hc
  clear hc
  go_enter Tryz.func16, Tryz.ntmps16
  go_wp2
  go_loopw [3] (fun i wr => ∃ k : Nat, k ≤ n ∧ i = .int .i64 k ∧ (∀ j, j < k → OkM f j) ∧ ∃ x : After w, wr = x.w) (fun i _ => n - (intOf i).toNat)
  case atStart => exact ⟨0, by omega, rfl, fun j hj => absurd hj (by omega), ⟨w, Below.refl _ _⟩, rfl⟩
  case round =>
    obtain ⟨k, hk, rfl, ho, x, rfl⟩ := hrel
    have HO := Lib.hid ho
    clear ho
    by_cases hlt : k < n
    · obtain ⟨c1, c2, c3⟩ := HC.out k hlt
      have C4 : Hid (0 < k → w.cell? ⟨b, off + (k - 1) * 3, none⟩ = some (.int .i64 (f (k - 1) 0))) := fun h0 => (HC.out (k - 1) (by omega)).1
      have HK : Hid (OkM f k ↔ InMk (f k 0) (f k 1) (f k 2) ∧ (0 < k → f (k - 1) 0 < f k 0)) := Iff.rfl
      generalize f k 0 = h at *
      generalize f k 1 = e at *
      generalize f k 2 = m at *
      generalize f (k - 1) 0 = q at *
      by_cases hp : InMk h e m
      · have HM := Lib.hid (fun w => rvalidMark_t h e m w hp)
        have HP := Lib.hid hp
        clear hp
        by_cases hk0 : 0 < k
        · have c4 := C4.out hk0
          have hk1 : (1 : Int) ≤ (k : Int) := by omega
          by_cases hu : q < h
          · go_wp2
            refine wp_region_after (by kernel_rfl) (by kernel_rfl) ?_; (repeat (first | go_big_quiet_step ((go_at_call 37; exact quiet_after (HM.out _))) | (refine wpQuiet_step (fun K hK => ?_); go_simp; first | (refine hK _ ?_; clear hK K) | (apply Exists.intro; refine ⟨fun x => ?_, hK _ ?_⟩; (go_at_call 37; exact quiet_after (HM.out _)); clear hK K)))); refine wpQuiet_nil ?_
            intro y
            go_wp2
            go_roundw
            case rel => exact ⟨k + 1, by omega, by go_num, fun j hj => by
              rcases Nat.lt_or_ge j k with hj' | hj'
              · exact HO.out j hj'
              · obtain rfl : j = k := by omega
                exact HK.out.2 ⟨HP.out, fun _ => hu⟩, ⟨_, x.out.trans (y.out.mono x.out.size)⟩, rfl⟩
            case measure => simp [intOf]; omega
          · go_wp2
            refine wp_region_after (by kernel_rfl) (by kernel_rfl) ?_; (repeat (first | go_big_quiet_step ((go_at_call 37; exact quiet_after (HM.out _))) | (refine wpQuiet_step (fun K hK => ?_); go_simp; first | (refine hK _ ?_; clear hK K) | (apply Exists.intro; refine ⟨fun x => ?_, hK _ ?_⟩; (go_at_call 37; exact quiet_after (HM.out _)); clear hK K)))); refine wpQuiet_nil ?_
            intro y
            go_wp2
            go_ret
            exact ⟨ret_dec (by simp; exact fun hG => by have := (HK.out.1 (hG.2.2 k hlt)).2 hk0; omega), by (repeat' (first | (with_reducible exact Below.refl _ _) | (with_reducible assumption) | (with_reducible refine Below.alloc ?_ ?_ _) | (with_reducible refine Below.drew ?_) | (with_reducible refine below_drewN ?_ _) | (with_reducible refine Below.setCell ?_ ?_ _) | (with_reducible refine below_after ?_ ?_ _) | (with_reducible refine below_set ?_) | (with_reducible refine After.size_le _ ?_) | (with_reducible refine size_alloc_le ?_) | (with_reducible refine size_set_le ?_) | (with_reducible refine size_drewN_le ?_) | go_size))⟩
        · go_wp2
          refine wp_region_after (by kernel_rfl) (by kernel_rfl) ?_; (repeat (first | go_big_quiet_step ((go_at_call 37; exact quiet_after (HM.out _))) | (refine wpQuiet_step (fun K hK => ?_); go_simp; first | (refine hK _ ?_; clear hK K) | (apply Exists.intro; refine ⟨fun x => ?_, hK _ ?_⟩; (go_at_call 37; exact quiet_after (HM.out _)); clear hK K)))); refine wpQuiet_nil ?_
          intro y
          go_wp2
          go_roundw
          case rel => exact ⟨k + 1, by omega, by go_num, fun j hj => by
            rcases Nat.lt_or_ge j k with hj' | hj'
            · exact HO.out j hj'
            · obtain rfl : j = k := by omega
              exact HK.out.2 ⟨HP.out, fun h => absurd h hk0⟩, ⟨_, x.out.trans (y.out.mono x.out.size)⟩, rfl⟩
          case measure => simp [intOf]; omega
      · have HM := Lib.hid (fun w => rvalidMark_f h e m w hp)
        have HP := Lib.hid hp
        clear hp
        go_wp2
        refine wp_region_after (by kernel_rfl) (by kernel_rfl) ?_; (repeat (first | go_big_quiet_step ((go_at_call 37; exact quiet_after (HM.out _))) | (refine wpQuiet_step (fun K hK => ?_); go_simp; first | (refine hK _ ?_; clear hK K) | (apply Exists.intro; refine ⟨fun x => ?_, hK _ ?_⟩; (go_at_call 37; exact quiet_after (HM.out _)); clear hK K)))); refine wpQuiet_nil ?_
        intro y
        go_wp2
        go_ret
        exact ⟨ret_dec (by simp; exact fun hG => HP.out (HK.out.1 (hG.2.2 k hlt)).1), by (repeat' (first | (with_reducible exact Below.refl _ _) | (with_reducible assumption) | (with_reducible refine Below.alloc ?_ ?_ _) | (with_reducible refine Below.drew ?_) | (with_reducible refine below_drewN ?_ _) | (with_reducible refine Below.setCell ?_ ?_ _) | (with_reducible refine below_after ?_ ?_ _) | (with_reducible refine below_set ?_) | (with_reducible refine After.size_le _ ?_) | (with_reducible refine size_alloc_le ?_) | (with_reducible refine size_set_le ?_) | (with_reducible refine size_drewN_le ?_) | go_size))⟩
    · by_cases h1 : 1 ≤ n
      · by_cases h2 : n ≤ 40
        · go_wp2
          go_ret
          exact ⟨ret_dec ⟨fun _ => ⟨h1, h2, fun j hj => HO.out j (by omega)⟩, fun _ => by simp; omega⟩, by (repeat' (first | (with_reducible exact Below.refl _ _) | (with_reducible assumption) | (with_reducible refine Below.alloc ?_ ?_ _) | (with_reducible refine Below.drew ?_) | (with_reducible refine below_drewN ?_ _) | (with_reducible refine Below.setCell ?_ ?_ _) | (with_reducible refine below_after ?_ ?_ _) | (with_reducible refine below_set ?_) | (with_reducible refine After.size_le _ ?_) | (with_reducible refine size_alloc_le ?_) | (with_reducible refine size_set_le ?_) | (with_reducible refine size_drewN_le ?_) | go_size))⟩
        · go_wp2
          go_ret
          exact ⟨ret_dec ⟨fun h => by simp at h; omega, fun hG => absurd hG.2.1 (by omega)⟩, by (repeat' (first | (with_reducible exact Below.refl _ _) | (with_reducible assumption) | (with_reducible refine Below.alloc ?_ ?_ _) | (with_reducible refine Below.drew ?_) | (with_reducible refine below_drewN ?_ _) | (with_reducible refine Below.setCell ?_ ?_ _) | (with_reducible refine below_after ?_ ?_ _) | (with_reducible refine below_set ?_) | (with_reducible refine After.size_le _ ?_) | (with_reducible refine size_alloc_le ?_) | (with_reducible refine size_set_le ?_) | (with_reducible refine size_drewN_le ?_) | go_size))⟩
      · go_wp2
        go_ret
        exact ⟨ret_dec (by simp; exact fun hG => h1 hG.1), by (repeat' (first | (with_reducible exact Below.refl _ _) | (with_reducible assumption) | (with_reducible refine Below.alloc ?_ ?_ _) | (with_reducible refine Below.drew ?_) | (with_reducible refine below_drewN ?_ _) | (with_reducible refine Below.setCell ?_ ?_ _) | (with_reducible refine below_after ?_ ?_ _) | (with_reducible refine below_set ?_) | (with_reducible refine After.size_le _ ?_) | (with_reducible refine size_alloc_le ?_) | (with_reducible refine size_set_le ?_) | (with_reducible refine size_drewN_le ?_) | go_size))⟩
def MSay (w : World) (v : Value) (b : Bool) : Prop := ∀ W, Below w.heap.size w W → Calls Tryz.prog 17 #[v] W fun e w' => e = .returned (.bool b) ∧ Below W.heap.size W w'
def RMSay (w : World) (v : Value) (b : Bool) : Prop := ∀ W, Below w.heap.size w W → Calls Tryz.prog 16 #[v] W fun e w' => e = .returned (.bool b) ∧ Below W.heap.size W w'
theorem cellsMark : Tryz.prog.cellsOf 40 = 3 := by kernel_rfl

/-- The slice value v holds the n marks f. -/
def Mks (W : World) (v : Value) (n : Nat) (f : Nat → Nat → Int) : Prop :=
  (∃ a cap, v = .slice a 0 cap ∧ n = 0) ∨ ∃ b off cap, v = .slice (some ⟨b, off, none⟩) n cap ∧ 1 ≤ n ∧ b < W.heap.size ∧ n ≤ cap ∧ cap ≤ 9223372036854775807 ∧ MkCells W b off n f

set_option maxHeartbeats 400000 in
theorem valid_empty (a : Option Addr) (cap : Nat) (w : World) :
    Calls Tryz.prog 17 #[.slice a 0 cap] w fun e w' => e = .returned (.bool false) ∧ Below w.heap.size w w' := by
  go_enter Tryz.func17, Tryz.ntmps17
  go_wp2
  go_loopw [7] (fun i wr => i = .int .i64 0 ∧ ∃ x : After w, wr = x.w) (fun _ _ => 0)
  case atStart => exact ⟨rfl, ⟨w, Below.refl _ _⟩, rfl⟩
  case round =>
    obtain ⟨rfl, x, rfl⟩ := hrel
    go_wp2
    go_ret
    exact ⟨rfl, by (repeat' (first | (with_reducible exact Below.refl _ _) | (with_reducible assumption) | (with_reducible refine Below.alloc ?_ ?_ _) | (with_reducible refine Below.drew ?_) | (with_reducible refine below_drewN ?_ _) | (with_reducible refine Below.setCell ?_ ?_ _) | (with_reducible refine below_after ?_ ?_ _) | (with_reducible refine below_set ?_) | (with_reducible refine After.size_le _ ?_) | (with_reducible refine size_alloc_le ?_) | (with_reducible refine size_set_le ?_) | (with_reducible refine size_drewN_le ?_) | go_size))⟩
set_option maxHeartbeats 400000 in
theorem rvalid_empty (a : Option Addr) (cap : Nat) (w : World) :
    Calls Tryz.prog 16 #[.slice a 0 cap] w fun e w' => e = .returned (.bool false) ∧ Below w.heap.size w w' := by
  go_enter Tryz.func16, Tryz.ntmps16
  go_wp2
  go_loopw [3] (fun i wr => i = .int .i64 0 ∧ ∃ x : After w, wr = x.w) (fun _ _ => 0)
  case atStart => exact ⟨rfl, ⟨w, Below.refl _ _⟩, rfl⟩
  case round =>
    obtain ⟨rfl, x, rfl⟩ := hrel
    go_wp2
    go_ret
    exact ⟨rfl, by (repeat' (first | (with_reducible exact Below.refl _ _) | (with_reducible assumption) | (with_reducible refine Below.alloc ?_ ?_ _) | (with_reducible refine Below.drew ?_) | (with_reducible refine below_drewN ?_ _) | (with_reducible refine Below.setCell ?_ ?_ _) | (with_reducible refine below_after ?_ ?_ _) | (with_reducible refine below_set ?_) | (with_reducible refine After.size_le _ ?_) | (with_reducible refine size_alloc_le ?_) | (with_reducible refine size_set_le ?_) | (with_reducible refine size_drewN_le ?_) | go_size))⟩

theorem not_goodM_zero {f : Nat → Nat → Int} : ¬ GoodM 0 f := fun h => by have := h.1; omega
theorem say_mks {w : World} {v : Value} {n : Nat} {f : Nat → Nat → Int} (h : Mks w v n f) (hl : n ≤ 100) : MSay w v (decide (GoodM n f)) := by
  intro W hW
  rcases h with ⟨a, cap, rfl, rfl⟩ | ⟨b, off, cap, rfl, h1, hb, hc, hm, hcc⟩
  · rw [decide_eq_false not_goodM_zero]; exact valid_empty a cap W
  · exact valid_any b off cap n f W (Nat.lt_of_lt_of_le hb hW.size) h1 (by omega) hc hm (hcc.on hb hW)
theorem rsay_mks {w : World} {v : Value} {n : Nat} {f : Nat → Nat → Int} (h : Mks w v n f) (hl : n ≤ 100) : RMSay w v (decide (GoodM n f)) := by
  intro W hW
  rcases h with ⟨a, cap, rfl, rfl⟩ | ⟨b, off, cap, rfl, h1, hb, hc, hm, hcc⟩
  · rw [decide_eq_false not_goodM_zero]; exact rvalid_empty a cap W
  · exact rvalid_any b off cap n f W (Nat.lt_of_lt_of_le hb hW.size) (by omega) (hcc.on hb hW)
theorem mks_good {w : World} {v : Value} {n : Nat} {f : Nat → Nat → Int} (h : Mks w v n f) (hG : GoodM n f) : ∃ b off cap, v = .slice (some ⟨b, off, none⟩) n cap ∧ b < w.heap.size ∧ MkCells w b off n f := by
  rcases h with ⟨a, cap, rfl, rfl⟩ | ⟨b, off, cap, rfl, h1, hb, hc, hm, hcc⟩
  · exact absurd hG not_goodM_zero
  · exact ⟨b, off, cap, rfl, hb, hcc⟩
theorem mks_slice {w : World} {v : Value} {n : Nat} {f : Nat → Nat → Int} (h : Mks w v n f) : ∃ a cap, v = .slice a n cap := by
  rcases h with ⟨a, cap, rfl, rfl⟩ | ⟨b, off, cap, rfl, h1, hb, hc, hm, hcc⟩
  · exact ⟨a, cap, rfl⟩
  · exact ⟨_, cap, rfl⟩

section
variable {H : Type} {enc : TypeId × Value → H} {P : Program} {w : World} {base : Nat} {spare : Nat → Bool} {held : Bool}
/-- A slice of such structs: without an element, or with all its cells. -/
theorem open_rows2 {r : Reach} {b0 : Nat} {t e : TypeId} {fs : Array Field} {k : Nat} {v : Value} {d : DataW H} {p : List MemPlace} (ht : P.underlying t = some (.slice e)) (he : P.underlying e = some (.struct fs)) (hk : 0 < k) (ce : P.cellsOf e = k) (hs : fs.size = k) (hf : intFieldsB P 0 fs.toList = true)
    (hv : Value.okWide P w r b0 t v) (h : DataW.Trod enc P w base spare held t v d p) :
    (∃ a cap, v = .slice a 0 cap) ∨ ∃ (b off len cap : Nat) (V : Nat → Nat → Int), v = .slice (some ⟨b, off, none⟩) len cap ∧ 0 < len ∧ len ≤ cap ∧ cap ≤ maxLen ∧ b < w.heap.size ∧
      ∀ i, i < len → ∀ j, j < k → w.cell? ⟨b, off + i * k + j, none⟩ = some (.int .i64 (V i j)) ∧ (Lit.int .i64 (V i j)).wf = true := by
  obtain ⟨a, len, cap, rfl⟩ := okWide_slice ht hv
  obtain ⟨fuel, h⟩ := h
  rcases open_slice ht h with ⟨h0, _⟩ | ⟨a', len', cap', m, n, D, Pl, h0, hb, hl, hm, hmm, _, hx⟩
  · simp [Value.cells] at h0
    obtain ⟨rfl, rfl, rfl⟩ := h0
    exact .inl ⟨_, _, rfl⟩
  · simp [Value.cells] at h0
    obtain ⟨rfl, rfl, rfl⟩ := h0
    rcases Nat.eq_zero_or_pos len with rfl | hpos
    · exact .inl ⟨_, _, rfl⟩
    right
    have hlm : len ≤ m := by rw [hmm]; split <;> omega
    have each : ∀ i, i < len → ∃ V : Nat → Int, ∀ j, j < k → w.cell? ((a'.add (i * k)).add j) = some (.int .i64 (V j)) ∧ (Lit.int .i64 (V j)).wf = true := by
      intro i hi
      obtain ⟨cs, h1, h2⟩ := hx i (by omega)
      rw [ce] at h1
      exact open_fields he hs hf h1 h2
    obtain ⟨V, hV⟩ := choose_lt each
    have g0 := (hV 0 hpos 0 hk).1
    obtain ⟨b, off, sp⟩ := a'
    have hsp : sp = none := by simpa [Addr.add] using World.cell?_spot g0
    subst hsp
    refine ⟨b, off, len, cap, V, rfl, hpos, by omega, by omega, World.block_lt_of_cell? w _ (by simpa [add_plain] using g0), fun i hi j hj => ?_⟩
    have := hV i hi j hj
    simpa [add_plain] using this
end
section
variable {H : Type} {enc : TypeId × Value → H} {w : World} {base : Nat} {spare : Nat → Bool} {held : Bool}
set_option maxRecDepth 100000 in
theorem open_mks {v : Value} {d : DataW H} {p : List MemPlace} {r : Reach} {b0 : Nat} (hv : Value.okWide Tryz.prog w r b0 22 v) (h : DataW.Trod enc Tryz.prog w base spare held 22 v d p) :
    ∃ nf : Nat × (Nat → Nat → Int), Mks w v nf.1 nf.2 ∧ True := by
  rcases open_rows2 (k := 3) Tryz.underlying22 Tryz.underlying40 (by omega) cellsMark (by kernel_rfl) (by kernel_rfl) hv h with ⟨a, cap, rfl⟩ | ⟨b, off, len, cap, V, rfl, h0, hm, hcm, hb, hc⟩
  · exact ⟨(0, fun _ _ => 0), .inl ⟨a, cap, rfl, rfl⟩, trivial⟩
  · exact ⟨(len, V), .inr ⟨b, off, cap, rfl, h0, hb, hm, by unfold maxLen at hcm; exact hcm, fun i hi => ⟨by simpa using (hc i hi 0 (by omega)).1, (hc i hi 1 (by omega)).1, (hc i hi 2 (by omega)).1⟩⟩, trivial⟩
end
end Go.Proofs.YtldopcneellfbaaGreatDoor
