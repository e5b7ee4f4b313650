/- Until of the program; P7.4 as mathematics. -/
import Derived.Test.YtmbjgaeofkikkaaDoorGmp
namespace Go.Proofs.YtmbjgaeofkikkaaDoor
open Go.RowKit
attribute [local go_sem] After.cell After.frozen After.lt After.le After.ne After.ne' After.set_eq After.size_set After.lt_add tx_size tx_toList

/-- The least of some days. -/
def unT (g : Nat → Int) : Nat → Int
  | 0 => 100000
  | k + 1 => min (unT g k) (g k)
theorem unT_le {g : Nat → Int} : ∀ k i, i < k → unT g k ≤ g i
  | 0, i, h => by omega
  | k + 1, i, h => by
    unfold unT
    by_cases e : i = k
    · subst e; omega
    · have := unT_le k i (show i < k by omega) (g := g); omega
theorem unT_bd {g : Nat → Int} : ∀ k, (∀ i, i < k → 0 ≤ g i) → 0 ≤ unT g k ∧ unT g k ≤ 100000
  | 0, _ => by simp [unT]
  | k + 1, h => by
    have h1 := unT_bd k (fun i hi => h i (by omega))
    have h2 := h k (by omega)
    unfold unT; omega
theorem unT_ge {g : Nat → Int} {d : Int} (hd : d ≤ 100000) : ∀ k, (∀ i, i < k → d ≤ g i) → d ≤ unT g k
  | 0, _ => hd
  | k + 1, h => by
    have h1 := unT_ge hd k (fun i hi => h i (by omega))
    have h2 := h k (by omega)
    unfold unT; omega
theorem dd_of {n m : Nat} {gm : Nat → List UInt8} {gl gd : Nat → Int} {gb lm : Nat → List UInt8} {lf : Nat → Int} (h : (vgB n gm gl gd gb && vrB n m gm lm lf) = true) {i : Nat} (hi : i < m) : 0 ≤ gd (ixO n gm lm i) ∧ gd (ixO n gm lm i) ≤ 100000 := by
  have h2 := (ix_of h hi).2
  simp only [Bool.and_eq_true] at h
  have h3 := ((vgB_of h.1).2 _ h2).1
  unfold okI at h3
  simp only [Bool.and_eq_true, decide_eq_true_eq] at h3
  exact h3.1.2
/-- What Until answers. -/
def unN (b : Bool) (n : Nat) (gm lm : Nat → List UInt8) (gd : Nat → Int) (m : Nat) : Int := if b then unT (fun i => gd (ixO n gm lm i)) m else 0
section
variable (a : Option Addr) (n cap : Nat) (gm : Nat → List UInt8) (gl gd : Nat → Int) (gb : Nat → List UInt8) (al : Option Addr) (m capl : Nat) (lm : Nat → List UInt8) (lf : Nat → Int) (w : World) (hA : ItAt w a n gm gl gd gb) (hL : LkAt w al m lm lf) (hn : n ≤ 1000) (hm : m ≤ 1000) (hcap : m ≤ capl) (h1 : Sht n gm) (h2 : Sht n gb) (h3 : Sht m lm)
include hA hL hn hm hcap h1 h2 h3
set_option maxRecDepth 100000 in
set_option maxHeartbeats 1000000 in
theorem until_any : Calls Tryd.prog 29 #[.slice a n cap, .slice al m capl] w fun e w' => e = .returned (.tuple #[.int .i64 (unN (vgB n gm gl gd gb && vrB n m gm lm lf) n gm lm gd m), .int .i64 (erB (vgB n gm gl gd gb && vrB n m gm lm lf))]) ∧ Below w.heap.size w w' := by
  have HO := Lib.hid (fun W (hW : Below w.heap.size w W) => open_any a n cap gm gl gd gb al m capl lm lf W (hA.on hW) (hL.on hW) hn hm hcap h1 h2 h3)
  have hmI : (m : Int) ≤ 1000 := by omega
  cases hb : vgB n gm gl gd gb && vrB n m gm lm lf
  · rw [hb] at HO
    clear hb hA hL h1 h2 h3 hn hm hcap
    go_enter Tryd.func29, Tryd.ntmps29
    go_wp2_with fail
    refine (HO.out _ (Below.refl _ _)).mono ?_
    rintro e w2 ⟨hr, hb2⟩
    obtain rfl : e = _ := hr
    have HB2 := Lib.hid (hb2.alloc hb2.size (.cells #[.slice none 0 0, .slice none 0 0] 70))
    clear hb2
    go_wp2
    go_returns
    exact ⟨rfl, HB2.out⟩
  · rw [hb] at HO
    clear hb hA hL h1 h2 h3 hn hm hcap
    go_enter Tryd.func29, Tryd.ntmps29
    go_wp2_with fail
    refine (HO.out _ (Below.refl _ _)).mono ?_
    rintro e w2 ⟨⟨a2, c2, rfl, hI⟩, hb2⟩
    have HB2 := Lib.hid (hb2.alloc hb2.size (.cells #[.slice al m capl, .slice a2 m c2] 70))
    have HI := Lib.hid (hI.on ((Below.refl _ w2).alloc (Nat.le_refl _) (.cells #[.slice al m capl, .slice a2 m c2] 70)))
    clear hb2 hI HO
    go_wp2
    generalize w2.alloc (.cells #[.slice al m capl, .slice a2 m c2] 70) = W0 at *
    have HU : Hid (unN true n gm lm gd m = unT (fun i => gd (ixO n gm lm i)) m) := Lib.hid rfl
    go_loopw [8, 22] (fun s i W => ∃ k : Nat, k ≤ m ∧ i = .int .i64 k ∧ s = .int .i64 (unT (fun i => gd (ixO n gm lm i)) k) ∧ Hid (Below W0.heap.size W0 W)) (fun _ i _ => m - (intOf i).toNat)
    case atStart => exact ⟨0, Nat.zero_le _, rfl, rfl, Lib.hid (Below.refl _ _)⟩
    case round =>
      obtain ⟨k, hk, rfl, rfl, HB⟩ := hrel
      by_cases hlt : k < m
      · have hlti : (k : Int) < (m : Int) := by omega
        obtain ⟨b, off, rfl, hbb, c0, c1, c2, c3⟩ := (HI.out.on HB.out) k hlt
        have HS : Hid (unT (fun i => gd (ixO n gm lm i)) (k + 1) = min (unT (fun i => gd (ixO n gm lm i)) k) (gd (ixO n gm lm k))) := Lib.hid rfl
        have HB1 := Lib.hid (HB.out.alloc HB.out.size (.cells #[.string (tx (gm (ixO n gm lm k))), .int .i64 (gl (ixO n gm lm k)), .int .i64 (gd (ixO n gm lm k)), .string (tx (gb (ixO n gm lm k)))] 62))
        generalize unT (fun i => gd (ixO n gm lm i)) k = s at *
        go_wp2
        go_roundw
        case rel => exact ⟨k + 1, by omega, by go_num, by rw [HS.out], HB1⟩
        case measure => simp [intOf]; omega
      · obtain rfl : k = m := by omega
        have HBf := Lib.hid (HB2.out.trans (HB.out.mono HB2.out.size))
        go_wp2
        go_returns
        exact ⟨by rw [HU.out]; rfl, HBf.out⟩
end
theorem rb_mono {lf : Nat → Int} {m : Nat} {lo lo' : Nat → Int} {E : List Nat} (i : Nat) : ∀ k, k ≤ E.length → (∀ j, j < E.length → lo' j ≤ lo j) → rbN lf m lo' E k i ≤ rbN lf m lo E k i
  | 0, _, _ => Int.le_refl _
  | k + 1, hk, h => by
    have h1 := rb_mono (lf := lf) (m := m) (lo := lo) (lo' := lo') i k (by omega) h
    have h2 := h k (by omega)
    unfold rbN
    by_cases hq : i ∈ upO lf m (E.getD k 0 : Nat)
    · rw [if_pos hq, if_pos hq]; omega
    · rw [if_neg hq, if_neg hq]; omega
theorem thN_nil {p : Nat → Bool} {m : Nat} : (thN p m).length = 0 ↔ ∀ i, i < m → p i = false := by
  unfold thN
  constructor
  · intro h i hi
    have h1 := List.eq_nil_of_length_eq_zero h
    have := List.filter_eq_nil_iff.1 h1 i (List.mem_range.2 hi)
    simpa using this
  · intro h
    rw [List.filter_eq_nil_iff.2 (fun i hi => by rw [h i (List.mem_range.1 hi)]; decide)]
    rfl
theorem wkE_zero {b : Bool} {nk : Nat} {c day : Int} (h : wkE b nk c day = 0) : b = true ∧ nk ≤ 100 ∧ c = 0 ∧ Btw day 0 100000 := by
  unfold wkE at h
  cases b with
  | false => simp at h
  | true =>
    rw [if_pos rfl] at h
    by_cases h1 : 100 < nk
    · rw [if_pos h1] at h; simp at h
    · rw [if_neg h1] at h
      by_cases h2 : c ≠ 0
      · rw [if_pos h2] at h; exact absurd h h2
      · rw [if_neg h2] at h
        by_cases h3 : Btw day 0 100000
        · exact ⟨rfl, by omega, by omega, h3⟩
        · rw [if_neg h3] at h; simp at h
theorem brE_zero {n K : Nat} {lo : Nat → Int} (h : brE n lo K = 0) : n = K ∧ LdOk n lo := by
  unfold brE at h
  by_cases h1 : n = K
  · rw [if_pos h1] at h
    by_cases h2 : LdOk n lo
    · exact ⟨h1, h2⟩
    · rw [if_neg h2] at h; simp at h
  · rw [if_neg h1] at h; simp at h
section
variable {n m : Nat} {gm lm : Nat → List UInt8} {gl gd : Nat → Int} {gb : Nat → List UInt8} {lf : Nat → Int} {nk nq : Nat} {gs : Nat → List UInt8} {day : Int} {lo : Nat → Int}
/-- A rig that may lift has all its items in date. -/
theorem less_day (he : wkE (vgB n gm gl gd gb && vrB n m gm lm lf) nk (brE nq lo (thN (enB m lf) m).length) day = 0) (hok : myB (wkE (vgB n gm gl gd gb && vrB n m gm lm lf) nk (brE nq lo (thN (enB m lf) m).length) day) (wkF n gm lm gl gd gb m lf day nk gs nq lo) m = true) : ∀ i, i < m → day ≤ gd (ixO n gm lm i) := fun i hi => by
  unfold myB wkL at hok
  rw [he] at hok
  simp only [decide_true, Bool.true_and, if_true, decide_eq_true_eq] at hok
  have h := thN_nil.1 hok i hi
  unfold wkF wkB at h
  simp only [Bool.or_eq_false_iff, decide_eq_false_iff_not] at h
  have := h.1.1
  omega
/-- A rig that may lift loads may lift lesser ones, on days when its items are in date. -/
theorem less_ok (he : wkE (vgB n gm gl gd gb && vrB n m gm lm lf) nk (brE nq lo (thN (enB m lf) m).length) day = 0) (hok : myB (wkE (vgB n gm gl gd gb && vrB n m gm lm lf) nk (brE nq lo (thN (enB m lf) m).length) day) (wkF n gm lm gl gd gb m lf day nk gs nq lo) m = true)
    {day' : Int} {lo' : Nat → Int} (hd : Btw day' 0 100000) (hdd : ∀ i, i < m → day' ≤ gd (ixO n gm lm i)) (hlo : ∀ i, i < nq → 0 ≤ lo' i ∧ lo' i ≤ lo i) :
    wkE (vgB n gm gl gd gb && vrB n m gm lm lf) nk (brE nq lo' (thN (enB m lf) m).length) day' = 0 ∧ myB (wkE (vgB n gm gl gd gb && vrB n m gm lm lf) nk (brE nq lo' (thN (enB m lf) m).length) day') (wkF n gm lm gl gd gb m lf day' nk gs nq lo') m = true := by
  obtain ⟨hb, hk, hc, _⟩ := wkE_zero he
  obtain ⟨hq, hl⟩ := brE_zero hc
  have hl' : LdOk nq lo' := fun i hi => by have := hl i hi; have := hlo i hi; omega
  have e' : brE nq lo' (thN (enB m lf) m).length = 0 := by unfold brE; rw [if_pos hq, if_pos hl']
  have he' : wkE (vgB n gm gl gd gb && vrB n m gm lm lf) nk (brE nq lo' (thN (enB m lf) m).length) day' = 0 := by
    unfold wkE
    rw [hb, if_pos rfl, if_neg (by omega), if_neg (by rw [e']; simp), if_pos hd]
  refine ⟨he', ?_⟩
  rw [he']
  unfold myB wkL at hok ⊢
  rw [he] at hok
  simp only [decide_true, Bool.true_and, if_true, decide_eq_true_eq] at hok ⊢
  rw [thN_nil] at hok ⊢
  intro i hi
  have h := hok i hi
  have hvr : vrB n m gm lm lf = true := by simp at hb; exact hb.2
  have hv := vr_lt hvr
  have hE := th_mem (p := enB m lf) (m := m)
  have hN := thN_nodup (enB m lf) m
  unfold wkF wkB at h ⊢
  simp only [Bool.or_eq_false_iff, decide_eq_false_iff_not] at h ⊢
  refine ⟨⟨by have := hdd i hi; omega, h.1.2⟩, ?_⟩
  have h3 := h.2
  rw [bo_rb hv hN hE hi nq (by omega)] at h3 ⊢
  have := rb_mono (lf := lf) (m := m) (lo := lo) (lo' := lo') (E := thN (enB m lf) m) i nq (by omega) (fun j hj => (hlo j (by omega)).2)
  omega
theorem end_last (hb : (vgB n gm gl gd gb && vrB n m gm lm lf) = true) : 1 ≤ (thN (enB m lf) m).length := by
  have hm := m_of hb
  have hvr : vrB n m gm lm lf = true := by simp at hb; exact hb.2
  have hv := vr_lt hvr
  have : m - 1 ∈ thN (enB m lf) m := by
    unfold thN
    refine List.mem_filter.2 ⟨List.mem_range.2 (by omega), enB_true (fun k hk e => by have := (hv k hk).1; omega)⟩
  exact List.length_pos_of_mem this
end
end Go.Proofs.YtmbjgaeofkikkaaDoor
