/- Valid gear: the reference's Valid; byMark of the program, with its map. -/
import Derived.Test.YtkgfaemdgmmdkaaGreatDoorGxGit
import Derived.Maps.Own
import Derived.Maps.OwnSet
import Derived.Maps.Views
import Derived.StringKeys
namespace Go.Proofs.YtkgfaemdgmmdkaaGreatDoor.Gx
open Go.Proofs.YtkgfaemdgmmdkaaGreatDoor
open Go.RowKit
attribute [local go_sem] After.cell After.frozen After.lt After.le After.ne After.ne' After.set_eq After.size_set After.lt_add tx_size tx_toList

/-- The first k items are valid, their marks differ. -/
def VgT (k : Nat) (gm : Nat → List UInt8) (gl gd : Nat → Int) (gb : Nat → List UInt8) : Prop := ∀ i, i < k → okI (gm i) (gl i) (gd i) (gb i) = true ∧ ∀ j, j < i → gm j ≠ gm i
/-- Valid gear. -/
def VgP (n : Nat) (gm : Nat → List UInt8) (gl gd : Nat → Int) (gb : Nat → List UInt8) : Prop := n ≤ 64 ∧ VgT n gm gl gd gb
open Classical in
noncomputable def vgB (n : Nat) (gm : Nat → List UInt8) (gl gd : Nat → Int) (gb : Nat → List UInt8) : Bool := decide (VgP n gm gl gd gb)
section
variable {n k : Nat} {gm : Nat → List UInt8} {gl gd : Nat → Int} {gb : Nat → List UInt8}
theorem vgT_zero : VgT 0 gm gl gd gb := fun i hi => by omega
theorem vgT_succ (h : VgT k gm gl gd gb) (h1 : okI (gm k) (gl k) (gd k) (gb k) = true) (h2 : ∀ j, j < k → gm j ≠ gm k) : VgT (k + 1) gm gl gd gb := fun i hi => by
  by_cases e : i = k
  · subst e; exact ⟨h1, h2⟩
  · exact h i (by omega)
open Classical in
theorem vgB_true (h : VgP n gm gl gd gb) : vgB n gm gl gd gb = true := by unfold vgB; exact decide_eq_true h
open Classical in
theorem vgB_of (h : vgB n gm gl gd gb = true) : VgP n gm gl gd gb := by unfold vgB at h; exact of_decide_eq_true h
open Classical in
theorem vgB_false (h : ¬ VgP n gm gl gd gb) : vgB n gm gl gd gb = false := by unfold vgB; exact decide_eq_false h
theorem vg_item (hk : k < n) (h : okI (gm k) (gl k) (gd k) (gb k) = false) : vgB n gm gl gd gb = false := vgB_false fun g => by
  have := (g.2 k hk).1
  rw [h] at this; cases this
theorem vg_twice {i : Nat} (hk : k < n) (hi : i < k) (h : gm i = gm k) : vgB n gm gl gd gb = false := vgB_false fun g => (g.2 k hk).2 i hi h
theorem vg_many (h : 64 < n) : vgB n gm gl gd gb = false := vgB_false fun g => by have := g.1; omega
end

set_option maxRecDepth 100000 in
set_option maxHeartbeats 4000000 in
theorem rvalid_any (a : Option Addr) (n cap : Nat) (gm : Nat → List UInt8) (gl gd : Nat → Int) (gb : Nat → List UInt8) (w : World) (hA : ItAt w a n gm gl gd gb) (hn : n ≤ 1000) (hm : Sht n gm) (hb : Sht n gb) :
    Calls Tryz.prog 11 #[.slice a n cap] w fun e w' => e = .returned (.bool (vgB n gm gl gd gb)) ∧ Below w.heap.size w w' := by
  have hnI : (n : Int) ≤ 1000 := by omega
  have HA := Lib.hid hA
  have HM := Lib.hid (And.intro hm hb)
  have HN := Lib.hid hn
  clear hA hm hb hn
  go_enter Tryz.func11, Tryz.ntmps11
  go_wp2
  go_loopw [3, 4] (fun i _ W => ∃ k : Nat, k ≤ n ∧ i = .int .i64 k ∧ Hid (VgT k gm gl gd gb) ∧ Hid (Below w.heap.size w W)) (fun i _ _ => n - (intOf i).toNat)
  case atStart => exact ⟨0, Nat.zero_le _, rfl, Lib.hid vgT_zero, Lib.hid (Below.refl _ _)⟩
  case round =>
    obtain ⟨k, hk, rfl, HT, HB⟩ := hrel
    by_cases hlt : k < n
    · have hlti : (k : Int) < (n : Int) := by omega
      obtain ⟨b, off, rfl, hb, c0, c1, c2, c3⟩ := (HA.out.on HB.out) k hlt
      have R1 := Lib.hid (fun W => risName_any (gm k) (HM.out.1 k hlt) W)
      have R2 := Lib.hid (fun W => risName_any (gb k) (HM.out.2 k hlt) W)
      have R3 := fun W => rwithin_any (gl k) 1 1000000 W
      have R4 := fun W => rwithin_any (gd k) 0 100000 W
      have R5 := Lib.hid (fun W (hW : Below w.heap.size w W) => rfind_any (some ⟨b, off, none⟩) n cap gm gl gd gb (gm k) W (HA.out.on hW) (by have := HN.out; omega))
      have HO : Hid (okI (gm k) (gl k) (gd k) (gb k) = (nmB (gm k) && decide (Btw (gl k) 1 1000000) && decide (Btw (gd k) 0 100000) && nmB (gb k))) := Lib.hid rfl
      have HI := Lib.hid (fdI_lt (gm := gm) (n := n) (m := gm k) HN.out)
      have HF : Hid ((fdI gm n (gm k) < (k : Nat) → vgB n gm gl gd gb = false) ∧ (¬ fdI gm n (gm k) < (k : Nat) → ∀ j, j < k → gm j ≠ gm k)) := Lib.hid (by
        unfold fdI
        cases hf : fdN gm n (gm k) with
        | none => exact absurd rfl (fdN_none.1 hf k hlt)
        | some i =>
          obtain ⟨h1, h2, h3⟩ := fdN_some.1 hf
          dsimp only
          exact ⟨fun h => vg_twice hlt (by omega) h2, fun h j hj => h3 j (by omega)⟩)
      have HV : Hid (okI (gm k) (gl k) (gd k) (gb k) = false → vgB n gm gl gd gb = false) := Lib.hid (vg_item hlt)
      have HG : Hid (okI (gm k) (gl k) (gd k) (gb k) = true → (∀ j, j < k → gm j ≠ gm k) → VgT (k + 1) gm gl gd gb) := Lib.hid (vgT_succ HT.out)
      rw [HO.out] at HV HG
      clear HO HT
      generalize fdI gm n (gm k) = fi at *
      generalize nmB (gm k) = b1 at *
      generalize nmB (gb k) = b2 at *
      generalize decide (Btw (gl k) 1 1000000) = b3 at *
      generalize decide (Btw (gd k) 0 100000) = b4 at *
      have HV1 := Lib.hid (fun (h1 : b1 = false ∨ b3 = false ∨ b4 = false ∨ b2 = false) => HV.out (by rcases h1 with rfl | rfl | rfl | rfl <;> simp))
      have HI1 := HI.out
      clear HV HI hb HN
      cases b1
      · have HQ := Lib.hid (HV1.out (.inl rfl))
        clear HV1 HF HG
        have hB := HB.out
        have hBs := hB.size
        go_wp2_with (first | (go_at_call 26; with_reducible refine (R3 _).mono ?_; rintro e w' ⟨rfl, rfl⟩) | (go_at_call 26; with_reducible refine (R4 _).mono ?_; rintro e w' ⟨rfl, rfl⟩) | (go_at_call 25; with_reducible refine calls_after (R1.out _) ?_; intro x1) | (go_at_call 25; with_reducible refine calls_after2 (R2.out _) ?_; intro x2) | (go_at_call 27; with_reducible refine calls_after2 (R5.out _ ?_) ?_; ((repeat' (first | (with_reducible exact Below.refl _ _) | (with_reducible assumption) | (with_reducible refine Below.alloc ?_ ?_ _) | (with_reducible refine Below.drew ?_) | (with_reducible refine below_drewN ?_ _) | (with_reducible refine Below.setCell ?_ ?_ _) | (with_reducible refine below_after ?_ ?_ _) | (with_reducible refine below_set ?_) | (with_reducible refine After.size_le _ ?_) | (with_reducible refine size_alloc_le ?_) | (with_reducible refine size_set_le ?_) | (with_reducible refine size_drewN_le ?_) | go_size))); intro x3))
        go_returns
        exact ⟨by rw [HQ.out]; rfl, by (repeat' (first | (with_reducible exact Below.refl _ _) | (with_reducible assumption) | (with_reducible refine Below.alloc ?_ ?_ _) | (with_reducible refine Below.drew ?_) | (with_reducible refine below_drewN ?_ _) | (with_reducible refine Below.setCell ?_ ?_ _) | (with_reducible refine below_after ?_ ?_ _) | (with_reducible refine below_set ?_) | (with_reducible refine After.size_le _ ?_) | (with_reducible refine size_alloc_le ?_) | (with_reducible refine size_set_le ?_) | (with_reducible refine size_drewN_le ?_) | go_size))⟩
      cases b2
      · have HQ := Lib.hid (HV1.out (.inr (.inr (.inr rfl))))
        clear HV1 HF HG
        have hB := HB.out
        have hBs := hB.size
        go_wp2_with (first | (go_at_call 26; with_reducible refine (R3 _).mono ?_; rintro e w' ⟨rfl, rfl⟩) | (go_at_call 26; with_reducible refine (R4 _).mono ?_; rintro e w' ⟨rfl, rfl⟩) | (go_at_call 25; with_reducible refine calls_after (R1.out _) ?_; intro x1) | (go_at_call 25; with_reducible refine calls_after2 (R2.out _) ?_; intro x2) | (go_at_call 27; with_reducible refine calls_after2 (R5.out _ ?_) ?_; ((repeat' (first | (with_reducible exact Below.refl _ _) | (with_reducible assumption) | (with_reducible refine Below.alloc ?_ ?_ _) | (with_reducible refine Below.drew ?_) | (with_reducible refine below_drewN ?_ _) | (with_reducible refine Below.setCell ?_ ?_ _) | (with_reducible refine below_after ?_ ?_ _) | (with_reducible refine below_set ?_) | (with_reducible refine After.size_le _ ?_) | (with_reducible refine size_alloc_le ?_) | (with_reducible refine size_set_le ?_) | (with_reducible refine size_drewN_le ?_) | go_size))); intro x3))
        go_returns
        exact ⟨by rw [HQ.out]; rfl, by (repeat' (first | (with_reducible exact Below.refl _ _) | (with_reducible assumption) | (with_reducible refine Below.alloc ?_ ?_ _) | (with_reducible refine Below.drew ?_) | (with_reducible refine below_drewN ?_ _) | (with_reducible refine Below.setCell ?_ ?_ _) | (with_reducible refine below_after ?_ ?_ _) | (with_reducible refine below_set ?_) | (with_reducible refine After.size_le _ ?_) | (with_reducible refine size_alloc_le ?_) | (with_reducible refine size_set_le ?_) | (with_reducible refine size_drewN_le ?_) | go_size))⟩
      cases b3
      · have HQ := Lib.hid (HV1.out (.inr (.inl rfl)))
        clear HV1 HF HG
        have hB := HB.out
        have hBs := hB.size
        go_wp2_with (first | (go_at_call 26; with_reducible refine (R3 _).mono ?_; rintro e w' ⟨rfl, rfl⟩) | (go_at_call 26; with_reducible refine (R4 _).mono ?_; rintro e w' ⟨rfl, rfl⟩) | (go_at_call 25; with_reducible refine calls_after (R1.out _) ?_; intro x1) | (go_at_call 25; with_reducible refine calls_after2 (R2.out _) ?_; intro x2) | (go_at_call 27; with_reducible refine calls_after2 (R5.out _ ?_) ?_; ((repeat' (first | (with_reducible exact Below.refl _ _) | (with_reducible assumption) | (with_reducible refine Below.alloc ?_ ?_ _) | (with_reducible refine Below.drew ?_) | (with_reducible refine below_drewN ?_ _) | (with_reducible refine Below.setCell ?_ ?_ _) | (with_reducible refine below_after ?_ ?_ _) | (with_reducible refine below_set ?_) | (with_reducible refine After.size_le _ ?_) | (with_reducible refine size_alloc_le ?_) | (with_reducible refine size_set_le ?_) | (with_reducible refine size_drewN_le ?_) | go_size))); intro x3))
        go_returns
        exact ⟨by rw [HQ.out]; rfl, by (repeat' (first | (with_reducible exact Below.refl _ _) | (with_reducible assumption) | (with_reducible refine Below.alloc ?_ ?_ _) | (with_reducible refine Below.drew ?_) | (with_reducible refine below_drewN ?_ _) | (with_reducible refine Below.setCell ?_ ?_ _) | (with_reducible refine below_after ?_ ?_ _) | (with_reducible refine below_set ?_) | (with_reducible refine After.size_le _ ?_) | (with_reducible refine size_alloc_le ?_) | (with_reducible refine size_set_le ?_) | (with_reducible refine size_drewN_le ?_) | go_size))⟩
      cases b4
      · have HQ := Lib.hid (HV1.out (.inr (.inr (.inl rfl))))
        clear HV1 HF HG
        have hB := HB.out
        have hBs := hB.size
        go_wp2_with (first | (go_at_call 26; with_reducible refine (R3 _).mono ?_; rintro e w' ⟨rfl, rfl⟩) | (go_at_call 26; with_reducible refine (R4 _).mono ?_; rintro e w' ⟨rfl, rfl⟩) | (go_at_call 25; with_reducible refine calls_after (R1.out _) ?_; intro x1) | (go_at_call 25; with_reducible refine calls_after2 (R2.out _) ?_; intro x2) | (go_at_call 27; with_reducible refine calls_after2 (R5.out _ ?_) ?_; ((repeat' (first | (with_reducible exact Below.refl _ _) | (with_reducible assumption) | (with_reducible refine Below.alloc ?_ ?_ _) | (with_reducible refine Below.drew ?_) | (with_reducible refine below_drewN ?_ _) | (with_reducible refine Below.setCell ?_ ?_ _) | (with_reducible refine below_after ?_ ?_ _) | (with_reducible refine below_set ?_) | (with_reducible refine After.size_le _ ?_) | (with_reducible refine size_alloc_le ?_) | (with_reducible refine size_set_le ?_) | (with_reducible refine size_drewN_le ?_) | go_size))); intro x3))
        go_returns
        exact ⟨by rw [HQ.out]; rfl, by (repeat' (first | (with_reducible exact Below.refl _ _) | (with_reducible assumption) | (with_reducible refine Below.alloc ?_ ?_ _) | (with_reducible refine Below.drew ?_) | (with_reducible refine below_drewN ?_ _) | (with_reducible refine Below.setCell ?_ ?_ _) | (with_reducible refine below_after ?_ ?_ _) | (with_reducible refine below_set ?_) | (with_reducible refine After.size_le _ ?_) | (with_reducible refine size_alloc_le ?_) | (with_reducible refine size_set_le ?_) | (with_reducible refine size_drewN_le ?_) | go_size))⟩
      by_cases hf : fi < (k : Nat)
      · have HQ := Lib.hid (HF.out.1 hf)
        clear HV1 HF HG
        have hB := HB.out
        have hBs := hB.size
        go_wp2_with (first | (go_at_call 26; with_reducible refine (R3 _).mono ?_; rintro e w' ⟨rfl, rfl⟩) | (go_at_call 26; with_reducible refine (R4 _).mono ?_; rintro e w' ⟨rfl, rfl⟩) | (go_at_call 25; with_reducible refine calls_after (R1.out _) ?_; intro x1) | (go_at_call 25; with_reducible refine calls_after2 (R2.out _) ?_; intro x2) | (go_at_call 27; with_reducible refine calls_after2 (R5.out _ ?_) ?_; ((repeat' (first | (with_reducible exact Below.refl _ _) | (with_reducible assumption) | (with_reducible refine Below.alloc ?_ ?_ _) | (with_reducible refine Below.drew ?_) | (with_reducible refine below_drewN ?_ _) | (with_reducible refine Below.setCell ?_ ?_ _) | (with_reducible refine below_after ?_ ?_ _) | (with_reducible refine below_set ?_) | (with_reducible refine After.size_le _ ?_) | (with_reducible refine size_alloc_le ?_) | (with_reducible refine size_set_le ?_) | (with_reducible refine size_drewN_le ?_) | go_size))); intro x3))
        go_returns
        exact ⟨by rw [HQ.out]; rfl, by (repeat' (first | (with_reducible exact Below.refl _ _) | (with_reducible assumption) | (with_reducible refine Below.alloc ?_ ?_ _) | (with_reducible refine Below.drew ?_) | (with_reducible refine below_drewN ?_ _) | (with_reducible refine Below.setCell ?_ ?_ _) | (with_reducible refine below_after ?_ ?_ _) | (with_reducible refine below_set ?_) | (with_reducible refine After.size_le _ ?_) | (with_reducible refine size_alloc_le ?_) | (with_reducible refine size_set_le ?_) | (with_reducible refine size_drewN_le ?_) | go_size))⟩
      · have HG1 := Lib.hid (HG.out rfl (HF.out.2 hf))
        clear HV1 HF HG
        have hB := HB.out
        have hBs := hB.size
        go_wp2_with (first | (go_at_call 26; with_reducible refine (R3 _).mono ?_; rintro e w' ⟨rfl, rfl⟩) | (go_at_call 26; with_reducible refine (R4 _).mono ?_; rintro e w' ⟨rfl, rfl⟩) | (go_at_call 25; with_reducible refine calls_after (R1.out _) ?_; intro x1) | (go_at_call 25; with_reducible refine calls_after2 (R2.out _) ?_; intro x2) | (go_at_call 27; with_reducible refine calls_after2 (R5.out _ ?_) ?_; ((repeat' (first | (with_reducible exact Below.refl _ _) | (with_reducible assumption) | (with_reducible refine Below.alloc ?_ ?_ _) | (with_reducible refine Below.drew ?_) | (with_reducible refine below_drewN ?_ _) | (with_reducible refine Below.setCell ?_ ?_ _) | (with_reducible refine below_after ?_ ?_ _) | (with_reducible refine below_set ?_) | (with_reducible refine After.size_le _ ?_) | (with_reducible refine size_alloc_le ?_) | (with_reducible refine size_set_le ?_) | (with_reducible refine size_drewN_le ?_) | go_size))); intro x3))
        go_roundw
        case rel => exact ⟨k + 1, by omega, by go_num, HG1, Lib.hid (by (repeat' (first | (with_reducible exact Below.refl _ _) | (with_reducible assumption) | (with_reducible refine Below.alloc ?_ ?_ _) | (with_reducible refine Below.drew ?_) | (with_reducible refine below_drewN ?_ _) | (with_reducible refine Below.setCell ?_ ?_ _) | (with_reducible refine below_after ?_ ?_ _) | (with_reducible refine below_set ?_) | (with_reducible refine After.size_le _ ?_) | (with_reducible refine size_alloc_le ?_) | (with_reducible refine size_set_le ?_) | (with_reducible refine size_drewN_le ?_) | go_size)))⟩
        case measure => simp [intOf]; omega
    · obtain rfl : k = n := by omega
      by_cases h64 : (k : Int) ≤ 64
      · have HQ := Lib.hid (vgB_true ⟨by omega, HT.out⟩)
        go_wp2
        go_returns
        exact ⟨by rw [HQ.out]; rfl, HB.out⟩
      · have HQ := Lib.hid (vg_many (gm := gm) (gl := gl) (gd := gd) (gb := gb) (n := k) (by omega))
        go_wp2
        go_returns
        exact ⟨by rw [HQ.out]; rfl, HB.out⟩
end Go.Proofs.YtkgfaemdgmmdkaaGreatDoor.Gx
