/- Marks in memory; what both Valid come to. -/
import Derived.Test.YtdhobjflfhijjaaReach
namespace Go.Proofs.Ytdhobjflfhijjaa
open Go.RowKit
attribute [local go_sem] After.cell After.frozen After.lt After.le After.ne After.ne' After.set_eq After.size_set After.lt_add

/-- Marks lie in memory: the three numbers of each. -/
def MkCells (W : World) (b off n : Nat) (f : Nat → Nat → Int) : Prop :=
  ∀ i, i < n → W.cell? ⟨b, off + i * 3, none⟩ = some (.int .i64 (f i 0)) ∧ W.cell? ⟨b, off + i * 3 + 1, none⟩ = some (.int .i64 (f i 1)) ∧ W.cell? ⟨b, off + i * 3 + 2, none⟩ = some (.int .i64 (f i 2))
theorem MkCells.on {w W : World} {b off n : Nat} {f : Nat → Nat → Int} (h : MkCells w b off n f) (hb : b < w.heap.size) (hW : Below w.heap.size w W) : MkCells W b off n f :=
  fun i hi => ⟨(hW.cell (p := ⟨b, _, none⟩) hb).trans (h i hi).1, (hW.cell (p := ⟨b, _, none⟩) hb).trans (h i hi).2.1, (hW.cell (p := ⟨b, _, none⟩) hb).trans (h i hi).2.2⟩
def OkM (f : Nat → Nat → Int) (k : Nat) : Prop := InMk (f k 0) (f k 1) (f k 2) ∧ (0 < k → f (k - 1) 0 < f k 0)
instance (f : Nat → Nat → Int) (k : Nat) : Decidable (OkM f k) := by unfold OkM; infer_instance
def GoodM (n : Nat) (f : Nat → Nat → Int) : Prop := 1 ≤ n ∧ n ≤ 40 ∧ ∀ k, k < n → OkM f k
instance (n : Nat) (f : Nat → Nat → Int) : Decidable (GoodM n f) := by unfold GoodM; infer_instance
/-- Whether one mark may follow. -/
def FolM (k : Nat) (p h e n : Int) : Prop := k < 40 ∧ InMk h e n ∧ (0 < k → p < h)
instance (k : Nat) (p h e n : Int) : Decidable (FolM k p h e n) := by unfold FolM; infer_instance

set_option maxRecDepth 100000 in
set_option maxHeartbeats 1000000 in
theorem follows_any (b off cap k : Nat) (p h e n : Int) (w : World) (hb : b < w.heap.size) (hk : k ≤ 1000) (hp : 0 < k → w.cell? ⟨b, off + (k - 1) * 3, none⟩ = some (.int .i64 p)) :
    Calls Try.prog 59 #[.slice (some ⟨b, off, none⟩) k cap, .agg #[.int .i64 h, .int .i64 e, .int .i64 n]] w fun x w' => x = .returned (.bool (decide (FolM k p h e n))) ∧ Below w.heap.size w w' := by
  have hbs : b < w.heap.size + 1 := by omega
  by_cases h40 : k < 40
  · have k40 : (k : Int) < 40 := by omega
    by_cases hm : InMk h e n
    · have HM := Lib.hid (fun w => validMark_t h e n w hm)
      have Hm := Lib.hid hm
      have H40 := Lib.hid h40
      clear hm h40
      by_cases h0 : 0 < k
      · have c := hp h0
        have k0 : ((k : Int) == 0) = false := beq_eq_false_iff_ne.2 (by omega)
        have k1 : (1 : Int) ≤ (k : Int) := by omega
        have k2 : ((k : Int) - 1).toNat = k - 1 := by omega
        clear hp
        go_enter Try.func59, Try.ntmps59
        go_wp2_with fail
        refine wp_region_after (by kernel_rfl) (by kernel_rfl) ?_; (repeat (first | go_big_quiet_step (((go_at_call 99; exact quiet_after (HM.out _)))) | (refine wpQuiet_step (fun K hK => ?_); go_simp; first | (refine hK _ ?_; clear hK K) | (apply Exists.intro; refine ⟨fun x => ?_, hK _ ?_⟩; ((go_at_call 99; exact quiet_after (HM.out _))); clear hK K)))); refine wpQuiet_nil ?_
        intro x1
        go_wp2
        go_ret
        exact ⟨ret_dec (by rw [decide_eq_true_iff]; exact ⟨fun h => ⟨H40.out, Hm.out, fun _ => h⟩, fun h => h.2.2 h0⟩), by (repeat' (first | (with_reducible exact Below.refl _ _) | (with_reducible assumption) | (with_reducible refine Below.alloc ?_ ?_ _) | (with_reducible refine Below.drew ?_) | (with_reducible refine below_drewN ?_ _) | (with_reducible refine Below.setCell ?_ ?_ _) | (with_reducible refine below_after ?_ ?_ _) | (with_reducible refine below_set ?_) | (with_reducible refine After.size_le _ ?_) | (with_reducible refine size_alloc_le ?_) | (with_reducible refine size_set_le ?_) | (with_reducible refine size_drewN_le ?_) | go_size))⟩
      · obtain rfl : k = 0 := by omega
        clear hp
        go_enter Try.func59, Try.ntmps59
        go_wp2_with fail
        refine wp_region_after (by kernel_rfl) (by kernel_rfl) ?_; (repeat (first | go_big_quiet_step (((go_at_call 99; exact quiet_after (HM.out _)))) | (refine wpQuiet_step (fun K hK => ?_); go_simp; first | (refine hK _ ?_; clear hK K) | (apply Exists.intro; refine ⟨fun x => ?_, hK _ ?_⟩; ((go_at_call 99; exact quiet_after (HM.out _))); clear hK K)))); refine wpQuiet_nil ?_
        intro x1
        go_wp2
        go_ret
        exact ⟨ret_dec ⟨fun _ => ⟨H40.out, Hm.out, fun h => absurd h (by omega)⟩, fun _ => rfl⟩, by (repeat' (first | (with_reducible exact Below.refl _ _) | (with_reducible assumption) | (with_reducible refine Below.alloc ?_ ?_ _) | (with_reducible refine Below.drew ?_) | (with_reducible refine below_drewN ?_ _) | (with_reducible refine Below.setCell ?_ ?_ _) | (with_reducible refine below_after ?_ ?_ _) | (with_reducible refine below_set ?_) | (with_reducible refine After.size_le _ ?_) | (with_reducible refine size_alloc_le ?_) | (with_reducible refine size_set_le ?_) | (with_reducible refine size_drewN_le ?_) | go_size))⟩
    · have HM := Lib.hid (fun w => validMark_f h e n w hm)
      have Hm := Lib.hid hm
      clear hm h40 hp
      go_enter Try.func59, Try.ntmps59
      go_wp2_with fail
      refine wp_region_after (by kernel_rfl) (by kernel_rfl) ?_; (repeat (first | go_big_quiet_step (((go_at_call 99; exact quiet_after (HM.out _)))) | (refine wpQuiet_step (fun K hK => ?_); go_simp; first | (refine hK _ ?_; clear hK K) | (apply Exists.intro; refine ⟨fun x => ?_, hK _ ?_⟩; ((go_at_call 99; exact quiet_after (HM.out _))); clear hK K)))); refine wpQuiet_nil ?_
      intro x1
      go_wp2
      go_ret
      exact ⟨ret_dec (by simp; exact fun h => Hm.out h.2.1), by (repeat' (first | (with_reducible exact Below.refl _ _) | (with_reducible assumption) | (with_reducible refine Below.alloc ?_ ?_ _) | (with_reducible refine Below.drew ?_) | (with_reducible refine below_drewN ?_ _) | (with_reducible refine Below.setCell ?_ ?_ _) | (with_reducible refine below_after ?_ ?_ _) | (with_reducible refine below_set ?_) | (with_reducible refine After.size_le _ ?_) | (with_reducible refine size_alloc_le ?_) | (with_reducible refine size_set_le ?_) | (with_reducible refine size_drewN_le ?_) | go_size))⟩
  · have k40 : decide ((k : Int) < 40) = false := by simp; omega
    have H40 := Lib.hid h40
    clear h40 hp
    go_enter Try.func59, Try.ntmps59
    go_wp2_with fail
    refine wp_region_after (by kernel_rfl) (by kernel_rfl) ?_; (repeat (first | go_big_quiet_step (((go_at_call 99; fail))) | (refine wpQuiet_step (fun K hK => ?_); go_simp; first | (refine hK _ ?_; clear hK K) | (apply Exists.intro; refine ⟨fun x => ?_, hK _ ?_⟩; ((go_at_call 99; fail)); clear hK K)))); refine wpQuiet_nil ?_
    intro x1
    go_wp2
    go_ret
    exact ⟨ret_dec (by simp; exact fun h => H40.out h.1), by (repeat' (first | (with_reducible exact Below.refl _ _) | (with_reducible assumption) | (with_reducible refine Below.alloc ?_ ?_ _) | (with_reducible refine Below.drew ?_) | (with_reducible refine below_drewN ?_ _) | (with_reducible refine Below.setCell ?_ ?_ _) | (with_reducible refine below_after ?_ ?_ _) | (with_reducible refine below_set ?_) | (with_reducible refine After.size_le _ ?_) | (with_reducible refine size_alloc_le ?_) | (with_reducible refine size_set_le ?_) | (with_reducible refine size_drewN_le ?_) | go_size))⟩

theorem fol_ok {n k : Nat} {f : Nat → Nat → Int} (hk : k < n) (hG : GoodM n f) : FolM k (f (k - 1) 0) (f k 0) (f k 1) (f k 2) :=
  ⟨by have := hG.2.1; omega, (hG.2.2 k hk).1, (hG.2.2 k hk).2⟩

set_option maxRecDepth 100000 in
set_option maxHeartbeats 1000000 in
theorem valid_any (b off cap n : Nat) (f : Nat → Nat → Int) (w : World) (hb : b < w.heap.size) (hn : 1 ≤ n) (hlen : n ≤ 1000) (hcap : n ≤ cap) (hcm : cap ≤ 9223372036854775807) (hc : MkCells w b off n f) :
    Calls Try.prog 19 #[.slice (some ⟨b, off, none⟩) n cap] w fun e w' => e = .returned (.bool (decide (GoodM n f))) ∧ Below w.heap.size w w' := by
  have HC := Lib.hid hc
  clear hc
  go_enter Try.func19, Try.ntmps19
  go_wp2
  go_loopw [3, 4, 7] (fun i3 i4 i wr => ∃ k : Nat, k ≤ n ∧ i = .int .i64 k ∧ (∀ j, j < k → FolM j (f (j - 1) 0) (f j 0) (f j 1) (f j 2)) ∧ ∃ x : After w, wr = x.w) (fun _ _ i _ => n - (intOf i).toNat)
  case atStart => exact ⟨0, by omega, rfl, fun j hj => absurd hj (by omega), ⟨w, Below.refl _ _⟩, rfl⟩
  case round =>
    obtain ⟨k, hk, rfl, ho, x, rfl⟩ := hrel
    have hbx := x.size_lt hb
    have HO := Lib.hid ho
    clear ho
    by_cases hlt : k < n
    · obtain ⟨c1, c2, c3⟩ := HC.out k hlt
      have HFl : Hid (∀ W, Below w.heap.size w W → _) := fun W hW => follows_any b off cap k (f (k - 1) 0) (f k 0) (f k 1) (f k 2) W (Nat.lt_of_lt_of_le hb hW.size) (by omega) (fun h0 => ((HC.out.on hb hW) (k - 1) (by omega)).1)
      have hkc : (k : Int) ≤ (cap : Int) := by omega
      have HK := Lib.hid (fun hG => fol_ok (f := f) hlt hG)
      by_cases hF : FolM k (f (k - 1) 0) (f k 0) (f k 1) (f k 2)
      · have HF := Lib.hid hF
        rw [decide_eq_true hF] at HFl
        clear hF
        go_wp2_with fail
        refine wp_region_after (by kernel_rfl) (by kernel_rfl) ?_; (repeat (first | go_big_quiet_step (((go_at_call 59; refine quiet_after (HFl.out _ ?_); (repeat' (first | (with_reducible exact Below.refl _ _) | (with_reducible assumption) | (with_reducible refine Below.alloc ?_ ?_ _) | (with_reducible refine Below.drew ?_) | (with_reducible refine below_drewN ?_ _) | (with_reducible refine Below.setCell ?_ ?_ _) | (with_reducible refine below_after ?_ ?_ _) | (with_reducible refine below_set ?_) | (with_reducible refine After.size_le _ ?_) | (with_reducible refine size_alloc_le ?_) | (with_reducible refine size_set_le ?_) | (with_reducible refine size_drewN_le ?_) | go_size))))) | (refine wpQuiet_step (fun K hK => ?_); go_simp; first | (refine hK _ ?_; clear hK K) | (apply Exists.intro; refine ⟨fun x => ?_, hK _ ?_⟩; ((go_at_call 59; refine quiet_after (HFl.out _ ?_); (repeat' (first | (with_reducible exact Below.refl _ _) | (with_reducible assumption) | (with_reducible refine Below.alloc ?_ ?_ _) | (with_reducible refine Below.drew ?_) | (with_reducible refine below_drewN ?_ _) | (with_reducible refine Below.setCell ?_ ?_ _) | (with_reducible refine below_after ?_ ?_ _) | (with_reducible refine below_set ?_) | (with_reducible refine After.size_le _ ?_) | (with_reducible refine size_alloc_le ?_) | (with_reducible refine size_set_le ?_) | (with_reducible refine size_drewN_le ?_) | go_size)))); clear hK K)))); refine wpQuiet_nil ?_
        intro y
        go_wp2
        go_roundw
        case rel => exact ⟨k + 1, by omega, by go_num, fun j hj => by
          rcases Nat.lt_or_ge j k with hj' | hj'
          · exact HO.out j hj'
          · obtain rfl : j = k := by omega
            exact HF.out, ⟨_, below_after (x.out.alloc x.out.size _) (by simp; exact Nat.le_succ_of_le x.out.size) y⟩, rfl⟩
        case measure => simp [intOf]; omega
      · have HF := Lib.hid hF
        rw [decide_eq_false hF] at HFl
        clear hF
        go_wp2_with fail
        refine wp_region_after (by kernel_rfl) (by kernel_rfl) ?_; (repeat (first | go_big_quiet_step (((go_at_call 59; refine quiet_after (HFl.out _ ?_); (repeat' (first | (with_reducible exact Below.refl _ _) | (with_reducible assumption) | (with_reducible refine Below.alloc ?_ ?_ _) | (with_reducible refine Below.drew ?_) | (with_reducible refine below_drewN ?_ _) | (with_reducible refine Below.setCell ?_ ?_ _) | (with_reducible refine below_after ?_ ?_ _) | (with_reducible refine below_set ?_) | (with_reducible refine After.size_le _ ?_) | (with_reducible refine size_alloc_le ?_) | (with_reducible refine size_set_le ?_) | (with_reducible refine size_drewN_le ?_) | go_size))))) | (refine wpQuiet_step (fun K hK => ?_); go_simp; first | (refine hK _ ?_; clear hK K) | (apply Exists.intro; refine ⟨fun x => ?_, hK _ ?_⟩; ((go_at_call 59; refine quiet_after (HFl.out _ ?_); (repeat' (first | (with_reducible exact Below.refl _ _) | (with_reducible assumption) | (with_reducible refine Below.alloc ?_ ?_ _) | (with_reducible refine Below.drew ?_) | (with_reducible refine below_drewN ?_ _) | (with_reducible refine Below.setCell ?_ ?_ _) | (with_reducible refine below_after ?_ ?_ _) | (with_reducible refine below_set ?_) | (with_reducible refine After.size_le _ ?_) | (with_reducible refine size_alloc_le ?_) | (with_reducible refine size_set_le ?_) | (with_reducible refine size_drewN_le ?_) | go_size)))); clear hK K)))); refine wpQuiet_nil ?_
        intro y
        go_wp2
        go_ret
        exact ⟨ret_dec (by simp; exact fun hG => HF.out (HK.out hG)), by (repeat' (first | (with_reducible exact Below.refl _ _) | (with_reducible assumption) | (with_reducible refine Below.alloc ?_ ?_ _) | (with_reducible refine Below.drew ?_) | (with_reducible refine below_drewN ?_ _) | (with_reducible refine Below.setCell ?_ ?_ _) | (with_reducible refine below_after ?_ ?_ _) | (with_reducible refine below_set ?_) | (with_reducible refine After.size_le _ ?_) | (with_reducible refine size_alloc_le ?_) | (with_reducible refine size_set_le ?_) | (with_reducible refine size_drewN_le ?_) | go_size))⟩
    · obtain rfl : k = n := by omega
      go_wp2
      go_ret
      exact ⟨ret_dec ⟨fun _ => ⟨hn, by have := (HO.out (k - 1) (by omega)).1; omega, fun j hj => ⟨(HO.out j hj).2.1, (HO.out j hj).2.2⟩⟩, fun _ => by simp; omega⟩, by (repeat' (first | (with_reducible exact Below.refl _ _) | (with_reducible assumption) | (with_reducible refine Below.alloc ?_ ?_ _) | (with_reducible refine Below.drew ?_) | (with_reducible refine below_drewN ?_ _) | (with_reducible refine Below.setCell ?_ ?_ _) | (with_reducible refine below_after ?_ ?_ _) | (with_reducible refine below_set ?_) | (with_reducible refine After.size_le _ ?_) | (with_reducible refine size_alloc_le ?_) | (with_reducible refine size_set_le ?_) | (with_reducible refine size_drewN_le ?_) | go_size))⟩

set_option maxRecDepth 100000 in
set_option maxHeartbeats 1000000 in
theorem rvalid_any (b off cap n : Nat) (f : Nat → Nat → Int) (w : World) (hb : b < w.heap.size) (hlen : n ≤ 1000) (hc : MkCells w b off n f) :
    Calls Try.prog 20 #[.slice (some ⟨b, off, none⟩) n cap] w fun e w' => e = .returned (.bool (decide (GoodM n f))) ∧ Below w.heap.size w w' := by
  have HC := Lib.hid hc
  clear hc
  go_enter Try.func20, Try.ntmps20
  go_wp2
  go_loopw [3] (fun i wr => ∃ k : Nat, k ≤ n ∧ i = .int .i64 k ∧ (∀ j, j < k → OkM f j) ∧ ∃ x : After w, wr = x.w) (fun i _ => n - (intOf i).toNat)
  case atStart => exact ⟨0, by omega, rfl, fun j hj => absurd hj (by omega), ⟨w, Below.refl _ _⟩, rfl⟩
  case round =>
    obtain ⟨k, hk, rfl, ho, x, rfl⟩ := hrel
    have HO := Lib.hid ho
    clear ho
    by_cases hlt : k < n
    · obtain ⟨c1, c2, c3⟩ := HC.out k hlt
      have C4 : Hid (0 < k → w.cell? ⟨b, off + (k - 1) * 3, none⟩ = some (.int .i64 (f (k - 1) 0))) := fun h0 => (HC.out (k - 1) (by omega)).1
      have HK : Hid (OkM f k ↔ InMk (f k 0) (f k 1) (f k 2) ∧ (0 < k → f (k - 1) 0 < f k 0)) := Iff.rfl
      generalize f k 0 = h at *
      generalize f k 1 = e at *
      generalize f k 2 = m at *
      generalize f (k - 1) 0 = q at *
      by_cases hp : InMk h e m
      · have HM := Lib.hid (fun w => rvalidMark_t h e m w hp)
        have HP := Lib.hid hp
        clear hp
        by_cases hk0 : 0 < k
        · have c4 := C4.out hk0
          have hk1 : (1 : Int) ≤ (k : Int) := by omega
          by_cases hu : q < h
          · go_wp2
            refine wp_region_after (by kernel_rfl) (by kernel_rfl) ?_; (repeat (first | go_big_quiet_step ((go_at_call 60; exact quiet_after (HM.out _))) | (refine wpQuiet_step (fun K hK => ?_); go_simp; first | (refine hK _ ?_; clear hK K) | (apply Exists.intro; refine ⟨fun x => ?_, hK _ ?_⟩; (go_at_call 60; exact quiet_after (HM.out _)); clear hK K)))); refine wpQuiet_nil ?_
            intro y
            go_wp2
            go_roundw
            case rel => exact ⟨k + 1, by omega, by go_num, fun j hj => by
              rcases Nat.lt_or_ge j k with hj' | hj'
              · exact HO.out j hj'
              · obtain rfl : j = k := by omega
                exact HK.out.2 ⟨HP.out, fun _ => hu⟩, ⟨_, x.out.trans (y.out.mono x.out.size)⟩, rfl⟩
            case measure => simp [intOf]; omega
          · go_wp2
            refine wp_region_after (by kernel_rfl) (by kernel_rfl) ?_; (repeat (first | go_big_quiet_step ((go_at_call 60; exact quiet_after (HM.out _))) | (refine wpQuiet_step (fun K hK => ?_); go_simp; first | (refine hK _ ?_; clear hK K) | (apply Exists.intro; refine ⟨fun x => ?_, hK _ ?_⟩; (go_at_call 60; exact quiet_after (HM.out _)); clear hK K)))); refine wpQuiet_nil ?_
            intro y
            go_wp2
            go_ret
            exact ⟨ret_dec (by simp; exact fun hG => by have := (HK.out.1 (hG.2.2 k hlt)).2 hk0; omega), by (repeat' (first | (with_reducible exact Below.refl _ _) | (with_reducible assumption) | (with_reducible refine Below.alloc ?_ ?_ _) | (with_reducible refine Below.drew ?_) | (with_reducible refine below_drewN ?_ _) | (with_reducible refine Below.setCell ?_ ?_ _) | (with_reducible refine below_after ?_ ?_ _) | (with_reducible refine below_set ?_) | (with_reducible refine After.size_le _ ?_) | (with_reducible refine size_alloc_le ?_) | (with_reducible refine size_set_le ?_) | (with_reducible refine size_drewN_le ?_) | go_size))⟩
        · go_wp2
          refine wp_region_after (by kernel_rfl) (by kernel_rfl) ?_; (repeat (first | go_big_quiet_step ((go_at_call 60; exact quiet_after (HM.out _))) | (refine wpQuiet_step (fun K hK => ?_); go_simp; first | (refine hK _ ?_; clear hK K) | (apply Exists.intro; refine ⟨fun x => ?_, hK _ ?_⟩; (go_at_call 60; exact quiet_after (HM.out _)); clear hK K)))); refine wpQuiet_nil ?_
          intro y
          go_wp2
          go_roundw
          case rel => exact ⟨k + 1, by omega, by go_num, fun j hj => by
            rcases Nat.lt_or_ge j k with hj' | hj'
            · exact HO.out j hj'
            · obtain rfl : j = k := by omega
              exact HK.out.2 ⟨HP.out, fun h => absurd h hk0⟩, ⟨_, x.out.trans (y.out.mono x.out.size)⟩, rfl⟩
          case measure => simp [intOf]; omega
      · have HM := Lib.hid (fun w => rvalidMark_f h e m w hp)
        have HP := Lib.hid hp
        clear hp
        go_wp2
        refine wp_region_after (by kernel_rfl) (by kernel_rfl) ?_; (repeat (first | go_big_quiet_step ((go_at_call 60; exact quiet_after (HM.out _))) | (refine wpQuiet_step (fun K hK => ?_); go_simp; first | (refine hK _ ?_; clear hK K) | (apply Exists.intro; refine ⟨fun x => ?_, hK _ ?_⟩; (go_at_call 60; exact quiet_after (HM.out _)); clear hK K)))); refine wpQuiet_nil ?_
        intro y
        go_wp2
        go_ret
        exact ⟨ret_dec (by simp; exact fun hG => HP.out (HK.out.1 (hG.2.2 k hlt)).1), by (repeat' (first | (with_reducible exact Below.refl _ _) | (with_reducible assumption) | (with_reducible refine Below.alloc ?_ ?_ _) | (with_reducible refine Below.drew ?_) | (with_reducible refine below_drewN ?_ _) | (with_reducible refine Below.setCell ?_ ?_ _) | (with_reducible refine below_after ?_ ?_ _) | (with_reducible refine below_set ?_) | (with_reducible refine After.size_le _ ?_) | (with_reducible refine size_alloc_le ?_) | (with_reducible refine size_set_le ?_) | (with_reducible refine size_drewN_le ?_) | go_size))⟩
    · by_cases h1 : 1 ≤ n
      · by_cases h2 : n ≤ 40
        · go_wp2
          go_ret
          exact ⟨ret_dec ⟨fun _ => ⟨h1, h2, fun j hj => HO.out j (by omega)⟩, fun _ => by simp; omega⟩, by (repeat' (first | (with_reducible exact Below.refl _ _) | (with_reducible assumption) | (with_reducible refine Below.alloc ?_ ?_ _) | (with_reducible refine Below.drew ?_) | (with_reducible refine below_drewN ?_ _) | (with_reducible refine Below.setCell ?_ ?_ _) | (with_reducible refine below_after ?_ ?_ _) | (with_reducible refine below_set ?_) | (with_reducible refine After.size_le _ ?_) | (with_reducible refine size_alloc_le ?_) | (with_reducible refine size_set_le ?_) | (with_reducible refine size_drewN_le ?_) | go_size))⟩
        · go_wp2
          go_ret
          exact ⟨ret_dec ⟨fun h => by simp at h; omega, fun hG => absurd hG.2.1 (by omega)⟩, by (repeat' (first | (with_reducible exact Below.refl _ _) | (with_reducible assumption) | (with_reducible refine Below.alloc ?_ ?_ _) | (with_reducible refine Below.drew ?_) | (with_reducible refine below_drewN ?_ _) | (with_reducible refine Below.setCell ?_ ?_ _) | (with_reducible refine below_after ?_ ?_ _) | (with_reducible refine below_set ?_) | (with_reducible refine After.size_le _ ?_) | (with_reducible refine size_alloc_le ?_) | (with_reducible refine size_set_le ?_) | (with_reducible refine size_drewN_le ?_) | go_size))⟩
      · go_wp2
        go_ret
        exact ⟨ret_dec (by simp; exact fun hG => h1 hG.1), by (repeat' (first | (with_reducible exact Below.refl _ _) | (with_reducible assumption) | (with_reducible refine Below.alloc ?_ ?_ _) | (with_reducible refine Below.drew ?_) | (with_reducible refine below_drewN ?_ _) | (with_reducible refine Below.setCell ?_ ?_ _) | (with_reducible refine below_after ?_ ?_ _) | (with_reducible refine below_set ?_) | (with_reducible refine After.size_le _ ?_) | (with_reducible refine size_alloc_le ?_) | (with_reducible refine size_set_le ?_) | (with_reducible refine size_drewN_le ?_) | go_size))⟩
end Go.Proofs.Ytdhobjflfhijjaa
