/- Shares and Greatest of the program; two lists of whole numbers that are the same. -/
import Derived.Test.YtkgfaemdgmmdkaaGreatDoorGxGsh
namespace Go.Proofs.YtkgfaemdgmmdkaaGreatDoor.Gx
open Go.Proofs.YtkgfaemdgmmdkaaGreatDoor
open Go.RowKit
attribute [local go_sem] After.cell After.frozen After.lt After.le After.ne After.ne' After.set_eq After.size_set After.lt_add tx_size tx_toList

theorem ld_of {n m : Nat} {gm : Nat → List UInt8} {gl gd : Nat → Int} {gb lm : Nat → List UInt8} {lf : Nat → Int} (h : (vgB n gm gl gd gb && vrB n m gm lm lf) = true) : LdOk m (fun i => gl (ixO n gm lm i)) := fun i hi => by
  simp only [Bool.and_eq_true] at h
  have h1 := ((vrB_of h.2).2 i hi).1
  obtain ⟨j, hj⟩ := Option.ne_none_iff_exists'.1 h1
  have h2 := (fdN_some.1 hj).1
  have h3 := ((vgB_of h.1).2 j h2).1
  unfold okI at h3
  simp only [Bool.and_eq_true, decide_eq_true_eq] at h3
  have h4 := h3.1.1.2
  unfold Btw at h4
  show 0 ≤ gl (ixO n gm lm i) ∧ gl (ixO n gm lm i) ≤ 1000000
  have : ixO n gm lm i = j := by unfold ixO; rw [hj]; rfl
  rw [this]
  omega
theorem m_of {n m : Nat} {gm lm : Nat → List UInt8} {lf : Nat → Int} {b : Bool} (h : (b && vrB n m gm lm lf) = true) : 1 ≤ m := by
  simp only [Bool.and_eq_true] at h
  exact (vrB_of h.2).1.1
theorem shN_bd {lf : Nat → Int} {m : Nat} (hv : ∀ k, k < m → lf k < k ∧ -1 ≤ lf k) : ∀ (L : List Nat) (st : (Nat → Int) × List Int), LdOk m st.1 → (∀ e ∈ L, e < m) → (∀ x ∈ st.2, 0 ≤ x ∧ x ≤ 1000000) → ∀ x ∈ (L.foldl (shS lf m) st).2, 0 ≤ x ∧ x ≤ 1000000
  | [], st, _, _, h => h
  | e :: L, st, h1, h2, h => by
    rw [List.foldl_cons]
    refine shN_bd hv L _ (LdOk.step hv h1 (h2 e (by simp))) (fun e' he' => h2 e' (by simp [he'])) (fun x hx => ?_)
    rcases List.mem_append.1 hx with hx | hx
    · exact h x hx
    · rw [List.mem_singleton.1 hx]
      exact h1.share hv (h2 e (by simp))
theorem th_mem {p : Nat → Bool} {m : Nat} : ∀ e ∈ thN p m, e < m := fun e he => by unfold thN at he; exact List.mem_range.1 (List.mem_filter.1 he).1
/-- The shares of a right rig. -/
def shL (n : Nat) (gm lm : Nat → List UInt8) (gl : Nat → Int) (m : Nat) (lf : Nat → Int) : List Int := (shN lf m (fun i => gl (ixO n gm lm i)) (thN (enB m lf) m)).2
theorem shL_len (n : Nat) (gm lm : Nat → List UInt8) (gl : Nat → Int) (m : Nat) (lf : Nat → Int) : (shL n gm lm gl m lf).length ≤ m := by
  unfold shL shN
  rw [shN_len lf m (fun i => gl (ixO n gm lm i))]
  have := thN_len (enB m lf) m
  simpa using this
/-- What Shares answers. -/
def ZnR (b : Bool) (L : List Int) (w' : World) (e : Ending) : Prop := match b with
  | true => ∃ v, e = .returned (.tuple #[v, .int .i64 0]) ∧ ZAt w' v L
  | false => e = .returned (.tuple #[.slice none 0 0, .int .i64 1])
section
variable (a : Option Addr) (n cap : Nat) (gm : Nat → List UInt8) (gl gd : Nat → Int) (gb : Nat → List UInt8) (al : Option Addr) (m capl : Nat) (lm : Nat → List UInt8) (lf : Nat → Int) (w : World) (hA : ItAt w a n gm gl gd gb) (hL : LkAt w al m lm lf) (hn : n ≤ 1000) (hm : m ≤ 1000) (hcap : m ≤ capl) (h1 : Sht n gm) (h2 : Sht n gb) (h3 : Sht m lm)
include hA hL hn hm hcap h1 h2 h3
set_option maxRecDepth 100000 in
set_option maxHeartbeats 1000000 in
theorem shares_say : Calls Tryz.prog 13 #[.slice a n cap, .slice al m capl] w fun e w' => ZnR (vgB n gm gl gd gb && vrB n m gm lm lf) (shL n gm lm gl m lf) w' e ∧ Below w.heap.size w w' := by
  have HO := Lib.hid (fun W (hW : Below w.heap.size w W) => open_any a n cap gm gl gd gb al m capl lm lf W (hA.on hW) (hL.on hW) hn hm hcap h1 h2 h3)
  cases hb : vgB n gm gl gd gb && vrB n m gm lm lf
  · rw [hb] at HO
    clear hb hA hL h1 h2 h3 hn hm hcap
    go_enter Tryz.func13, Tryz.ntmps13
    go_wp2_with fail
    refine (HO.out _ (Below.refl _ _)).mono ?_
    rintro e w2 ⟨hr, hb2⟩
    obtain rfl : e = _ := hr
    have HB2 := Lib.hid (hb2.alloc hb2.size (.cells #[.slice none 0 0, .slice none 0 0] 68))
    clear hb2
    go_wp2
    go_returns
    exact ⟨rfl, HB2.out⟩
  · have HV2 := Lib.hid (vr_lt (n := n) (m := m) (gm := gm) (lm := lm) (lf := lf) (by simp at hb; exact hb.2))
    have HLd := Lib.hid (ld_of hb)
    have HS := Lib.hid (fun a2 c2 W (hW : Below w.heap.size w W) (hI : ItAt W a2 m (fun i => gm (ixO n gm lm i)) (fun i => gl (ixO n gm lm i)) (fun i => gd (ixO n gm lm i)) (fun i => gb (ixO n gm lm i))) => shares_any al m capl lm lf a2 c2 _ _ _ _ W (hL.on hW) hI hm (m_of hb) HV2.out HLd.out)
    rw [hb] at HO
    clear hb hA hL h1 h2 h3 hn hm hcap HLd HV2
    go_enter Tryz.func13, Tryz.ntmps13
    go_wp2_with fail
    refine (HO.out _ (Below.refl _ _)).mono ?_
    rintro e w2 ⟨⟨a2, c2, rfl, hI⟩, hb2⟩
    have HB2 := Lib.hid (hb2.alloc hb2.size (.cells #[.slice al m capl, .slice a2 m c2] 68))
    have HI := Lib.hid (hI.on ((Below.refl _ w2).alloc (Nat.le_refl _) (.cells #[.slice al m capl, .slice a2 m c2] 68)))
    clear hb2 hI HO
    go_wp2_with fail
    refine (HS.out _ _ _ HB2.out HI.out).mono ?_
    rintro e w3 ⟨v, rfl, hZ, hb3⟩
    have HZ := Lib.hid hZ
    have HB3 := Lib.hid (HB2.out.trans (hb3.mono HB2.out.size))
    clear hb3 hZ HS
    go_wp2
    go_returns
    exact ⟨⟨_, rfl, HZ.out⟩, HB3.out⟩
/-- What Greatest answers. -/
def gsN (b : Bool) (L : List Int) : Int := if b then L.sum else 0
def erB (b : Bool) : Int := if b then 0 else 1
set_option maxRecDepth 100000 in
set_option maxHeartbeats 1000000 in
theorem greatest_say : Calls Tryz.prog 12 #[.slice a n cap, .slice al m capl] w fun e w' => e = .returned (.tuple #[.int .i64 (gsN (vgB n gm gl gd gb && vrB n m gm lm lf) (shL n gm lm gl m lf)), .int .i64 (erB (vgB n gm gl gd gb && vrB n m gm lm lf))]) ∧ Below w.heap.size w w' := by
  have HS := Lib.hid (shares_say a n cap gm gl gd gb al m capl lm lf w hA hL hn hm hcap h1 h2 h3)
  have hlen : (shL n gm lm gl m lf).length ≤ 1000 := Nat.le_trans (shL_len n gm lm gl m lf) hm
  cases hb : vgB n gm gl gd gb && vrB n m gm lm lf
  · rw [hb] at HS
    clear hb hA hL h1 h2 h3 hn hm hcap
    generalize shL n gm lm gl m lf = L at *
    go_enter Tryz.func12, Tryz.ntmps12
    go_wp2_with fail
    refine HS.out.mono ?_
    rintro e w2 ⟨hr, hb2⟩
    obtain rfl : e = _ := hr
    have HB2 := Lib.hid hb2
    clear hb2 HS
    go_wp2
    refine wp_loop_rounds 1 ?_
    rw [rounds_succ]
    go_wp2
    go_returns
    exact ⟨rfl, HB2.out⟩
  · have hbd : ∀ x ∈ shL n gm lm gl m lf, 0 ≤ x ∧ x ≤ 1000000 := shN_bd (vr_lt (n := n) (m := m) (gm := gm) (lm := lm) (lf := lf) (by simp at hb; exact hb.2)) _ _ (ld_of hb) th_mem (fun x hx => by cases hx)
    have HBd := Lib.hid hbd
    rw [hb] at HS
    clear hb hA hL h1 h2 h3 hn hm hcap hbd
    generalize shL n gm lm gl m lf = L at *
    have hlI : ((L.length : Nat) : Int) ≤ 1000 := by omega
    go_enter Tryz.func12, Tryz.ntmps12
    go_wp2_with fail
    refine HS.out.mono ?_
    rintro e w2 ⟨⟨v, rfl, hZ⟩, hb2⟩
    obtain ⟨az, cz, rfl, hz⟩ := hZ
    have HZ := Lib.hid hz
    have HB2 := Lib.hid hb2
    clear hb2 HS hz
    go_wp2
    go_loopw [8, 19] (fun s i W => ∃ k : Nat, k ≤ L.length ∧ i = .int .i64 k ∧ s = .int .i64 (L.take k).sum ∧ (0 ≤ (L.take k).sum ∧ (L.take k).sum ≤ 1000000 * k) ∧ W = w2) (fun _ i _ => L.length - (intOf i).toNat)
    case atStart => exact ⟨0, Nat.zero_le _, rfl, rfl, by simp, rfl⟩
    case round =>
      obtain ⟨k, hk, rfl, rfl, hs, rfl⟩ := hrel
      by_cases hlt : k < L.length
      · have hlti : (k : Int) < (L.length : Int) := by omega
        obtain ⟨b, off, rfl, hbb, c0⟩ := HZ.out k hlt
        have hx := HBd.out (L.getD k 0) (by rw [List.getD_eq_getElem?_getD, List.getElem?_eq_getElem hlt]; exact List.getElem_mem _)
        have hT : Hid ((L.take (k + 1)).sum = (L.take k).sum + L.getD k 0) := Lib.hid (by
          rw [List.take_add_one, List.getElem?_eq_getElem hlt, List.sum_append, List.getD_eq_getElem?_getD, List.getElem?_eq_getElem hlt]
          simp only [Option.toList_some, Option.getD_some, List.sum_cons, List.sum_nil]
          omega)
        generalize L.getD k 0 = x at *
        generalize (L.take k).sum = s at *
        go_wp2
        go_roundw
        case rel => exact ⟨k + 1, by omega, by go_num, by rw [hT.out], by rw [hT.out]; omega, trivial⟩
        case measure => simp [intOf]; omega
      · obtain rfl : k = L.length := by omega
        have hT : Hid (L.take L.length = L) := Lib.hid (List.take_length)
        have HZ2 : Hid ((L.take L.length).sum = gsN true L) := Lib.hid (by rw [hT.out]; rfl)
        generalize (L.take L.length).sum = s at *
        go_wp2
        go_returns
        exact ⟨by rw [HZ2.out]; rfl, HB2.out⟩
end
set_option maxRecDepth 100000 in
set_option maxHeartbeats 1000000 in
theorem sameZ_any {v v' : Value} {L : List Int} {w : World} (h : ZAt w v L) (h' : ZAt w v' L) (hl : L.length ≤ 100000) :
    Calls Tryz.prog 15 #[v, v'] w fun e w' => e = .returned (.bool true) ∧ Below w.heap.size w w' := by
  obtain ⟨a, cap, rfl, h1⟩ := h
  obtain ⟨a2, cap2, rfl, h2⟩ := h'
  have hn : ((L.length : Nat) : Int) ≤ 100000 := by omega
  have H1 := Lib.hid h1
  have H2 := Lib.hid h2
  clear h1 h2 hl
  go_enter Tryz.func15, Tryz.ntmps15
  go_wp2
  go_loopw [5] (fun i W => ∃ k : Nat, k ≤ L.length ∧ i = .int .i64 k ∧ ∃ x : After w, W = x.w) (fun i _ => L.length - (intOf i).toNat)
  case atStart => exact ⟨0, Nat.zero_le _, rfl, ⟨w, Below.refl _ _⟩, rfl⟩
  case round =>
    obtain ⟨k, hk, rfl, x, rfl⟩ := hrel
    by_cases hlt : k < L.length
    · have hlti : (k : Int) < (L.length : Int) := by omega
      obtain ⟨b, off, rfl, hb, c1⟩ := H1.out k hlt
      obtain ⟨b2, off2, rfl, hb2, c2⟩ := H2.out k hlt
      generalize L.getD k 0 = z at *
      go_wp2
      refine wp_region_after (by kernel_rfl) (by kernel_rfl) ?_; (repeat (first | go_big_quiet_step ((fail)) | (refine wpQuiet_step (fun K hK => ?_); go_simp; first | (refine hK _ ?_; clear hK K) | (apply Exists.intro; refine ⟨fun x => ?_, hK _ ?_⟩; (fail); clear hK K)))); refine wpQuiet_nil ?_
      intro y
      go_wp2
      go_roundw
      case rel => exact ⟨k + 1, by omega, by go_num, ⟨_, x.out.trans (y.out.mono x.out.size)⟩, rfl⟩
      case measure => simp [intOf]; omega
    · obtain rfl : k = L.length := by omega
      go_wp2
      go_ret
      exact ⟨rfl, by (repeat' (first | (with_reducible exact Below.refl _ _) | (with_reducible assumption) | (with_reducible refine Below.alloc ?_ ?_ _) | (with_reducible refine Below.drew ?_) | (with_reducible refine below_drewN ?_ _) | (with_reducible refine Below.setCell ?_ ?_ _) | (with_reducible refine below_after ?_ ?_ _) | (with_reducible refine below_set ?_) | (with_reducible refine After.size_le _ ?_) | (with_reducible refine size_alloc_le ?_) | (with_reducible refine size_set_le ?_) | (with_reducible refine size_drewN_le ?_) | go_size))⟩
end Go.Proofs.YtkgfaemdgmmdkaaGreatDoor.Gx
