/- Until of the program. -/
import Derived.Test.YteojmhfocdlnoaaDoorTrGsr
import Derived.Test.YteojmhfocdlnoaaDoorTrGvs
namespace Go.Proofs.YteojmhfocdlnoaaDoor.Tr
open Go.Proofs.YteojmhfocdlnoaaDoor
open Go.RowKit
attribute [local go_sem] After.cell After.frozen After.lt After.le After.ne After.ne' After.set_eq After.size_set After.lt_add tx_size tx_toList

theorem ix_of {n m : Nat} {gm : Nat → List UInt8} {gl gd : Nat → Int} {gb lm : Nat → List UInt8} {lf : Nat → Int} (h : (vgB n gm gl gd gb && vrB n m gm lm lf) = true) {i : Nat} (hi : i < m) : fdI gm n (lm i) = ((ixO n gm lm i : Nat) : Int) ∧ ixO n gm lm i < n := by
  simp only [Bool.and_eq_true] at h
  have h1 := ((vrB_of h.2).2 i hi).1
  obtain ⟨j, hj⟩ := Option.ne_none_iff_exists'.1 h1
  have h2 := (fdN_some.1 hj).1
  have e : ixO n gm lm i = j := by unfold ixO; rw [hj]; rfl
  rw [e]
  exact ⟨by unfold fdI; rw [hj], h2⟩
/-- The least of some days. -/
def unT (g : Nat → Int) : Nat → Int
  | 0 => 100000
  | k + 1 => min (unT g k) (g k)
theorem unT_le {g : Nat → Int} : ∀ k i, i < k → unT g k ≤ g i
  | 0, i, h => by omega
  | k + 1, i, h => by
    unfold unT
    by_cases e : i = k
    · subst e; omega
    · have := unT_le k i (show i < k by omega) (g := g); omega
theorem unT_bd {g : Nat → Int} : ∀ k, (∀ i, i < k → 0 ≤ g i) → 0 ≤ unT g k ∧ unT g k ≤ 100000
  | 0, _ => by simp [unT]
  | k + 1, h => by
    have h1 := unT_bd k (fun i hi => h i (by omega))
    have h2 := h k (by omega)
    unfold unT; omega
theorem unT_ge {g : Nat → Int} {d : Int} (hd : d ≤ 100000) : ∀ k, (∀ i, i < k → d ≤ g i) → d ≤ unT g k
  | 0, _ => hd
  | k + 1, h => by
    have h1 := unT_ge hd k (fun i hi => h i (by omega))
    have h2 := h k (by omega)
    unfold unT; omega
theorem dd_of {n m : Nat} {gm : Nat → List UInt8} {gl gd : Nat → Int} {gb lm : Nat → List UInt8} {lf : Nat → Int} (h : (vgB n gm gl gd gb && vrB n m gm lm lf) = true) {i : Nat} (hi : i < m) : 0 ≤ gd (ixO n gm lm i) ∧ gd (ixO n gm lm i) ≤ 100000 := by
  have h2 := (ix_of h hi).2
  simp only [Bool.and_eq_true] at h
  have h3 := ((vgB_of h.1).2 _ h2).1
  unfold okI at h3
  simp only [Bool.and_eq_true, decide_eq_true_eq] at h3
  exact h3.1.2
/-- What Until answers. -/
def unN (b : Bool) (n : Nat) (gm lm : Nat → List UInt8) (gd : Nat → Int) (m : Nat) : Int := if b then unT (fun i => gd (ixO n gm lm i)) m else 0
section
variable (a : Option Addr) (n cap : Nat) (gm : Nat → List UInt8) (gl gd : Nat → Int) (gb : Nat → List UInt8) (al : Option Addr) (m capl : Nat) (lm : Nat → List UInt8) (lf : Nat → Int) (w : World) (hA : ItAt w a n gm gl gd gb) (hL : LkAt w al m lm lf) (hn : n ≤ 1000) (hm : m ≤ 1000) (hcap : m ≤ capl) (h1 : Sht n gm) (h2 : Sht n gb) (h3 : Sht m lm)
include hA hL hn hm hcap h1 h2 h3
set_option maxRecDepth 100000 in
set_option maxHeartbeats 1000000 in
theorem until_any : Calls Tryd.prog 7 #[.slice a n cap, .slice al m capl] w fun e w' => e = .returned (.tuple #[.int .i64 (unN (vgB n gm gl gd gb && vrB n m gm lm lf) n gm lm gd m), .int .i64 (erB (vgB n gm gl gd gb && vrB n m gm lm lf))]) ∧ Below w.heap.size w w' := by
  have HO := Lib.hid (fun W (hW : Below w.heap.size w W) => open_any a n cap gm gl gd gb al m capl lm lf W (hA.on hW) (hL.on hW) hn hm hcap h1 h2 h3)
  have hmI : (m : Int) ≤ 1000 := by omega
  cases hb : vgB n gm gl gd gb && vrB n m gm lm lf
  · rw [hb] at HO
    clear hb hA hL h1 h2 h3 hn hm hcap
    go_enter Tryd.func7, Tryd.ntmps7
    go_wp2_with fail
    refine (HO.out _ (Below.refl _ _)).mono ?_
    rintro e w2 ⟨hr, hb2⟩
    obtain rfl : e = _ := hr
    have HB2 := Lib.hid (hb2.alloc hb2.size (.cells #[.slice none 0 0, .slice none 0 0] 44))
    clear hb2
    go_wp2
    go_returns
    exact ⟨rfl, HB2.out⟩
  · rw [hb] at HO
    clear hb hA hL h1 h2 h3 hn hm hcap
    go_enter Tryd.func7, Tryd.ntmps7
    go_wp2_with fail
    refine (HO.out _ (Below.refl _ _)).mono ?_
    rintro e w2 ⟨⟨a2, c2, rfl, hI⟩, hb2⟩
    have HB2 := Lib.hid (hb2.alloc hb2.size (.cells #[.slice al m capl, .slice a2 m c2] 44))
    have HI := Lib.hid (hI.on ((Below.refl _ w2).alloc (Nat.le_refl _) (.cells #[.slice al m capl, .slice a2 m c2] 44)))
    clear hb2 hI HO
    go_wp2
    generalize w2.alloc (.cells #[.slice al m capl, .slice a2 m c2] 44) = W0 at *
    have HU : Hid (unN true n gm lm gd m = unT (fun i => gd (ixO n gm lm i)) m) := Lib.hid rfl
    go_loopw [8, 22] (fun s i W => ∃ k : Nat, k ≤ m ∧ i = .int .i64 k ∧ s = .int .i64 (unT (fun i => gd (ixO n gm lm i)) k) ∧ Hid (Below W0.heap.size W0 W)) (fun _ i _ => m - (intOf i).toNat)
    case atStart => exact ⟨0, Nat.zero_le _, rfl, rfl, Lib.hid (Below.refl _ _)⟩
    case round =>
      obtain ⟨k, hk, rfl, rfl, HB⟩ := hrel
      by_cases hlt : k < m
      · have hlti : (k : Int) < (m : Int) := by omega
        obtain ⟨b, off, rfl, hbb, c0, c1, c2, c3⟩ := (HI.out.on HB.out) k hlt
        have HS : Hid (unT (fun i => gd (ixO n gm lm i)) (k + 1) = min (unT (fun i => gd (ixO n gm lm i)) k) (gd (ixO n gm lm k))) := Lib.hid rfl
        have HB1 := Lib.hid (HB.out.alloc HB.out.size (.cells #[.string (tx (gm (ixO n gm lm k))), .int .i64 (gl (ixO n gm lm k)), .int .i64 (gd (ixO n gm lm k)), .string (tx (gb (ixO n gm lm k)))] 38))
        generalize unT (fun i => gd (ixO n gm lm i)) k = s at *
        go_wp2
        go_roundw
        case rel => exact ⟨k + 1, by omega, by go_num, by rw [HS.out], HB1⟩
        case measure => simp [intOf]; omega
      · obtain rfl : k = m := by omega
        have HBf := Lib.hid (HB2.out.trans (HB.out.mono HB2.out.size))
        go_wp2
        go_returns
        exact ⟨by rw [HU.out]; rfl, HBf.out⟩
end
end Go.Proofs.YteojmhfocdlnoaaDoor.Tr
