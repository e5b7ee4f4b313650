/- IsName, in both. -/
import Derived.Test.YtkgfaemdgmmdkaaGreatDoorGxGnm
import Derived.Test.YtkgfaemdgmmdkaaGreatDoorShelf
namespace Go.Proofs.YtkgfaemdgmmdkaaGreatDoor.Gx
open Go.Proofs.YtkgfaemdgmmdkaaGreatDoor
open Go.RowKit
attribute [local go_sem] After.cell After.frozen After.lt After.le After.ne After.ne' After.set_eq After.size_set After.lt_add tx_size tx_toList

def Btw (n a b : Int) : Prop := a ≤ n ∧ n ≤ b
instance (n a b : Int) : Decidable (Btw n a b) := by unfold Btw; infer_instance
theorem ret_dec {p : Prop} [Decidable p] {a : Bool} (h : a = true ↔ p) : Ending.returned (.bool a) = .returned (.bool (decide p)) := by
  by_cases hp : p
  · simp [hp, h.2 hp]
  · have : a = false := by cases a with | false => rfl | true => exact absurd (h.1 rfl) hp
    simp [hp, this]
theorem between_any (n a b : Int) (w : World) :
    Calls Tryz.prog 30 #[.int .i64 n, .int .i64 a, .int .i64 b] w fun e w' => e = .returned (.bool (decide (Btw n a b))) ∧ w = w' := by
  go_enter Tryz.func30, Tryz.ntmps30
  go_wp2
  all_goals
    go_ret
    exact ⟨ret_dec (by unfold Btw; simp; omega), rfl⟩
theorem rwithin_any (n a b : Int) (w : World) :
    Calls Tryz.prog 26 #[.int .i64 n, .int .i64 a, .int .i64 b] w fun e w' => e = .returned (.bool (decide (Btw n a b))) ∧ w = w' := by
  go_enter Tryz.func26, Tryz.ntmps26
  go_wp2
  all_goals
    go_ret
    exact ⟨ret_dec (by unfold Btw; simp; omega), rfl⟩
theorem between_b (n a b : Int) (w : World) {x : Bool} (h : decide (Btw n a b) = x) : Calls Tryz.prog 30 #[.int .i64 n, .int .i64 a, .int .i64 b] w fun e w' => e = .returned (.bool x) ∧ w = w' := by
  rw [← h]; exact between_any n a b w
theorem rwithin_b (n a b : Int) (w : World) {x : Bool} (h : decide (Btw n a b) = x) : Calls Tryz.prog 26 #[.int .i64 n, .int .i64 a, .int .i64 b] w fun e w' => e = .returned (.bool x) ∧ w = w' := by
  rw [← h]; exact rwithin_any n a b w

set_option maxRecDepth 100000 in
set_option maxHeartbeats 2000000 in
theorem risName_any (s : List UInt8) (hs : s.length ≤ 9223372036854775807) (w : World) :
    Calls Tryz.prog 25 #[.string (tx s)] w fun e w' => e = .returned (.bool (nmB s)) ∧ Below w.heap.size w w' := by
  have hls : ((s.length : Nat) : Int) ≤ 9223372036854775807 := by omega
  go_enter Tryz.func25, Tryz.ntmps25
  go_wp2
  go_loopw [3, 4, 5] (fun i _ _ W => ∃ k : Nat, k ≤ s.length ∧ i = .int .i64 k ∧ Hid (NmTo s k) ∧ Hid (Below w.heap.size w W)) (fun i _ _ _ => s.length - (intOf i).toNat)
  case atStart => exact ⟨0, Nat.zero_le _, rfl, Lib.hid (nmTo_zero s), Lib.hid (Below.refl _ _)⟩
  case round =>
    obtain ⟨k, hk, rfl, HT, HB⟩ := hrel
    by_cases hlt : k < s.length
    · have hlti : (k : Int) < (s.length : Int) := by omega
      obtain ⟨c, hc⟩ : ∃ c, s[k]? = some c := ⟨_, List.getElem?_eq_getElem hlt⟩
      have hix := fun w => run_tx_index (P := Tryz.prog) w Tryz.underlying9 s k c hc
      have hc256 := c.toNat_lt
      have HS : Hid (smC c = (decide (97 ≤ c.toNat) && decide (c.toNat ≤ 122))) := Lib.hid rfl
      have HO : Hid (otC c = (decide (c.toNat = 95) || (decide (48 ≤ c.toNat) && decide (c.toNat ≤ 57)))) := Lib.hid rfl
      have HN := Lib.hid (fun (h1 : smC c = false) (h2 : k = 0 ∨ otC c = false) => nmB_not hc h1 h2)
      have hcI := Lib.hid hc
      clear hc
      have hu0 : (0 : Int) ≤ (c.toNat : Int) := by omega
      by_cases a1 : (97 : Int) ≤ (c.toNat : Int)
      · by_cases a2 : (c.toNat : Int) ≤ 122
        · have HQ : Hid (smC c = true ∨ (k ≠ 0 ∧ otC c = true)) := Lib.hid (.inl (by rw [HS.out]; simp; omega))
          have a3 : ((c.toNat : Int) == 95) = false := by simp; omega
          have a4 : (48 : Int) ≤ (c.toNat : Int) := by omega
          have a5 : ¬ (c.toNat : Int) ≤ 57 := by omega
          clear HS HO HN
          have hc := hcI.out
          go_wp2
          go_roundw
          case rel => exact ⟨k + 1, by omega, by go_num, Lib.hid (nmTo_succ HT.out hc HQ.out), HB⟩
          case measure => simp [intOf]; omega
        · have HQ : Hid (nmB s = false) := Lib.hid (HN.out (by rw [HS.out]; simp; omega) (.inr (by rw [HO.out]; simp; omega)))
          have a3 : ((c.toNat : Int) == 95) = false := by simp; omega
          have a4 : (48 : Int) ≤ (c.toNat : Int) := by omega
          have a5 : ¬ (c.toNat : Int) ≤ 57 := by omega
          clear HS HO HN
          by_cases k0 : k = 0
          · have k1 : ((k : Int) == 0) = true := by simp; omega
            clear k0
            go_wp2
            go_returns
            exact ⟨by rw [HQ.out]; rfl, HB.out⟩
          · have k1 : ((k : Int) == 0) = false := by simp; omega
            go_wp2
            go_returns
            exact ⟨by rw [HQ.out]; rfl, HB.out⟩
      · have HSm : Hid (smC c = false) := Lib.hid (by rw [HS.out]; simp; omega)
        by_cases a3 : c.toNat = 95
        · have a3' : ((c.toNat : Int) == 95) = true := by simp; omega
          have HOt : Hid (otC c = true) := Lib.hid (by rw [HO.out]; simp; omega)
          clear HS HO
          have a3'' := Lib.hid a3
          clear a3
          by_cases k0 : k = 0
          · have HQ : Hid (nmB s = false) := Lib.hid (HN.out HSm.out (.inl k0))
            have k1 : ((k : Int) == 0) = true := by simp; omega
            clear k0
            go_wp2
            go_returns
            exact ⟨by rw [HQ.out]; rfl, HB.out⟩
          · have k1 : ((k : Int) == 0) = false := by simp; omega
            have HQ : Hid (smC c = true ∨ (k ≠ 0 ∧ otC c = true)) := Lib.hid (.inr ⟨k0, HOt.out⟩)
            have hc := hcI.out
            go_wp2
            go_roundw
            case rel => exact ⟨k + 1, by omega, by go_num, Lib.hid (nmTo_succ HT.out hc HQ.out), HB⟩
            case measure => simp [intOf]; omega
        · have a3' : ((c.toNat : Int) == 95) = false := by simp; omega
          have a3'' := Lib.hid a3
          by_cases a4 : (48 : Int) ≤ (c.toNat : Int)
          · by_cases a5 : (c.toNat : Int) ≤ 57
            · have HOt : Hid (otC c = true) := Lib.hid (by rw [HO.out]; simp; omega)
              clear HS HO a3
              by_cases k0 : k = 0
              · have HQ : Hid (nmB s = false) := Lib.hid (HN.out HSm.out (.inl k0))
                have k1 : ((k : Int) == 0) = true := by simp; omega
                clear k0
                go_wp2
                go_returns
                exact ⟨by rw [HQ.out]; rfl, HB.out⟩
              · have k1 : ((k : Int) == 0) = false := by simp; omega
                have HQ : Hid (smC c = true ∨ (k ≠ 0 ∧ otC c = true)) := Lib.hid (.inr ⟨k0, HOt.out⟩)
                have hc := hcI.out
                go_wp2
                go_roundw
                case rel => exact ⟨k + 1, by omega, by go_num, Lib.hid (nmTo_succ HT.out hc HQ.out), HB⟩
                case measure => simp [intOf]; omega
            · have HQ : Hid (nmB s = false) := Lib.hid (HN.out HSm.out (.inr (by rw [HO.out]; simp; omega)))
              clear HS HO a3
              by_cases k0 : k = 0
              · have k1 : ((k : Int) == 0) = true := by simp; omega
                clear k0
                go_wp2
                go_returns
                exact ⟨by rw [HQ.out]; rfl, HB.out⟩
              · have k1 : ((k : Int) == 0) = false := by simp; omega
                go_wp2
                go_returns
                exact ⟨by rw [HQ.out]; rfl, HB.out⟩
          · have HQ : Hid (nmB s = false) := Lib.hid (HN.out HSm.out (.inr (by rw [HO.out]; simp; omega)))
            clear HS HO a3
            by_cases k0 : k = 0
            · have k1 : ((k : Int) == 0) = true := by simp; omega
              clear k0
              go_wp2
              go_returns
              exact ⟨by rw [HQ.out]; rfl, HB.out⟩
            · have k1 : ((k : Int) == 0) = false := by simp; omega
              go_wp2
              go_returns
              exact ⟨by rw [HQ.out]; rfl, HB.out⟩
    · obtain rfl : k = s.length := by omega
      have HE := Lib.hid (nmB_to HT.out)
      have hW := fun W => rwithin_any (s.length : Nat) 1 16 W
      go_wp2_with (go_at_call 26; refine (hW _).mono ?_; rintro e w' ⟨rfl, rfl⟩)
      go_ret
      have h1 : nmB s = decide (Btw ((s.length : Nat) : Int) 1 16) := by
        rw [HE.out, Bool.eq_iff_iff]
        simp only [Bool.and_eq_true, decide_eq_true_eq]
        unfold Btw
        omega
      exact ⟨by rw [h1]; rfl, HB.out⟩

theorem low_at (c : UInt8) : decide (0 ≤ Lib.indexByte nmLow c) = nmLow.contains c := by
  have h : ∀ n : Fin 256, decide (0 ≤ Lib.indexByte nmLow (UInt8.ofNat n.val)) = nmLow.contains (UInt8.ofNat n.val) := by decide +kernel
  have h1 := h ⟨c.toNat, c.toNat_lt⟩
  simpa using h1
theorem trim_any (s : List UInt8) (hs : s.length ≤ 9223372036854775807) (w : World) :
    Calls Tryz.prog 76 #[.string (tx s), .string (⟨#[97, 98, 99, 100, 101, 102, 103, 104, 105, 106, 107, 108, 109, 110, 111, 112, 113, 114, 115, 116, 117, 118, 119, 120, 121, 122, 48, 49, 50, 51, 52, 53, 54, 55, 56, 57, 95]⟩ : ByteArray)] w fun e w' => e = .returned (.string (tx (Lib.trimS s nmSet))) ∧ Below w.heap.size w w' := by
  have h := Any.strings_Trim_laid Tryz.lays160 (by kernel_rfl) (tx s) (tx nmSet) w (by rw [tx_size]; omega) (by rw [tx_size]; decide) (ascii_of_all (by decide +kernel))
  exact h
set_option maxRecDepth 100000 in
set_option maxHeartbeats 2000000 in
theorem isName_any (s : List UInt8) (hs : s.length ≤ 9223372036854775807) (w : World) :
    Calls Tryz.prog 61 #[.string (tx s)] w fun e w' => e = .returned (.bool (nmB s)) ∧ Below w.heap.size w w' := by
  have HQ := Lib.hid (nmB_prog s)
  have hls : ((s.length : Nat) : Int) ≤ 9223372036854775807 := by omega
  by_cases hb : 1 ≤ s.length ∧ s.length ≤ 16
  · have hW := fun W => between_b (s.length : Nat) 1 16 W (x := true) (decide_eq_true (by unfold Btw; omega))
    obtain ⟨c, hc⟩ : ∃ c, s.take 1 = [c] := by
      cases s with
      | nil => simp at hb
      | cons c cs => exact ⟨c, rfl⟩
    have hcc : s.head? = some c := by
      cases s with
      | nil => simp at hc
      | cons d cs => simp at hc; rw [hc]; rfl
    have HQ' : Hid (nmB s = (nmLow.contains c && decide (Lib.trimS s nmSet = []))) := Lib.hid (by
      rw [HQ.out, decide_eq_true hb.1, decide_eq_true hb.2, hcc]
      simp [Option.any])
    have hto : (tx s).extract 0 1 = tx [c] := by
      rw [← hc]
      apply ByteArray.ext
      simp [tx, ByteArray.data_extract]
    have HCo : Hid (∀ W, Calls Tryz.prog 75 #[.string (⟨#[97, 98, 99, 100, 101, 102, 103, 104, 105, 106, 107, 108, 109, 110, 111, 112, 113, 114, 115, 116, 117, 118, 119, 120, 121, 122]⟩ : ByteArray), .string (tx [c])] W fun e w' => e = .returned (.bool (nmLow.contains c)) ∧ w' = W) := Lib.hid fun W => by
      have h := Tryz.strings_Contains_one (tx nmLow) c W
      rw [show (tx nmLow).data.toList = nmLow from rfl, low_at] at h
      exact h
    have HT := Lib.hid (fun W => trim_any s hs W)
    clear HQ hc hcc
    generalize nmLow.contains c = b1 at *
    generalize Lib.trimS s nmSet = t at *
    cases b1
    · clear HT
      go_enter Tryz.func61, Tryz.ntmps61
      go_wp2_with (first | (go_at_call 30; refine (hW _).mono ?_; rintro e w' ⟨rfl, rfl⟩) | (go_at_call 75; refine (HCo.out _).mono ?_; rintro e w' ⟨rfl, rfl⟩))
      go_ret
      exact ⟨by rw [HQ'.out]; rfl, Below.refl _ _⟩
    · cases t with
      | nil =>
        go_enter Tryz.func61, Tryz.ntmps61
        go_wp2_with (first | (go_at_call 30; refine (hW _).mono ?_; rintro e w' ⟨rfl, rfl⟩) | (go_at_call 75; refine (HCo.out _).mono ?_; rintro e w' ⟨rfl, rfl⟩) | (go_at_call 76; refine calls_after (HT.out _) ?_; intro x1))
        go_ret
        exact ⟨by rw [HQ'.out]; rfl, by (repeat' (first | (with_reducible exact Below.refl _ _) | (with_reducible assumption) | (with_reducible refine Below.alloc ?_ ?_ _) | (with_reducible refine Below.drew ?_) | (with_reducible refine below_drewN ?_ _) | (with_reducible refine Below.setCell ?_ ?_ _) | (with_reducible refine below_after ?_ ?_ _) | (with_reducible refine below_set ?_) | (with_reducible refine After.size_le _ ?_) | (with_reducible refine size_alloc_le ?_) | (with_reducible refine size_set_le ?_) | (with_reducible refine size_drewN_le ?_) | go_size))⟩
      | cons d ds =>
        have hne : (d :: ds == []) = false := rfl
        go_enter Tryz.func61, Tryz.ntmps61
        go_wp2_with (first | (go_at_call 30; refine (hW _).mono ?_; rintro e w' ⟨rfl, rfl⟩) | (go_at_call 75; refine (HCo.out _).mono ?_; rintro e w' ⟨rfl, rfl⟩) | (go_at_call 76; refine calls_after (HT.out _) ?_; intro x1))
        go_ret
        exact ⟨by rw [HQ'.out]; rfl, by (repeat' (first | (with_reducible exact Below.refl _ _) | (with_reducible assumption) | (with_reducible refine Below.alloc ?_ ?_ _) | (with_reducible refine Below.drew ?_) | (with_reducible refine below_drewN ?_ _) | (with_reducible refine Below.setCell ?_ ?_ _) | (with_reducible refine below_after ?_ ?_ _) | (with_reducible refine below_set ?_) | (with_reducible refine After.size_le _ ?_) | (with_reducible refine size_alloc_le ?_) | (with_reducible refine size_set_le ?_) | (with_reducible refine size_drewN_le ?_) | go_size))⟩
  · have hW := fun W => between_b (s.length : Nat) 1 16 W (x := false) (decide_eq_false (by unfold Btw; omega))
    have HQ' : Hid (nmB s = false) := Lib.hid (by
      rw [HQ.out]
      by_cases h1 : 1 ≤ s.length
      · rw [decide_eq_false (show ¬ s.length ≤ 16 by omega)]; simp
      · rw [decide_eq_false h1]; rfl)
    clear HQ hb
    go_enter Tryz.func61, Tryz.ntmps61
    go_wp2_with (go_at_call 30; refine (hW _).mono ?_; rintro e w' ⟨rfl, rfl⟩)
    go_ret
    exact ⟨by rw [HQ'.out]; rfl, Below.refl _ _⟩
end Go.Proofs.YtkgfaemdgmmdkaaGreatDoor.Gx
