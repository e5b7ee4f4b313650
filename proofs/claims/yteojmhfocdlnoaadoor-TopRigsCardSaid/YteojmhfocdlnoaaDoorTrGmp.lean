/- May, in both. -/
import Derived.Test.YteojmhfocdlnoaaDoorTrGww
import Derived.Test.YteojmhfocdlnoaaDoorTrGut
namespace Go.Proofs.YteojmhfocdlnoaaDoor.Tr
open Go.Proofs.YteojmhfocdlnoaaDoor
open Go.RowKit
attribute [local go_sem] After.cell After.frozen After.lt After.le After.ne After.ne' After.set_eq After.size_set After.lt_add tx_size tx_toList

/-- The weak links, if there is no error. -/
def wkL (c : Int) (wk : Nat → Bool) (m : Nat) : List Nat := if c = 0 then thN wk m else []
theorem wkL_len (c : Int) (wk : Nat → Bool) (m : Nat) : (wkL c wk m).length ≤ m := by
  unfold wkL
  split
  · exact thN_len wk m
  · simp
theorem WkA.val {m : Nat} {wk : Nat → Bool} {c : Int} {W : World} {e : Ending} (h : WkA m wk c W e) : ∃ v, e = .returned (.tuple #[v, .int .i64 c]) ∧ NAt W v (wkL c wk m) := by
  rcases h with ⟨h, rfl⟩ | ⟨rfl, v, rfl, h⟩
  · refine ⟨_, rfl, ?_⟩
    unfold wkL
    rw [if_neg h]
    exact ⟨none, 0, rfl, fun i hi => by cases hi⟩
  · exact ⟨v, rfl, h⟩
/-- May a rig lift? -/
def myB (c : Int) (wk : Nat → Bool) (m : Nat) : Bool := decide (c = 0) && decide ((wkL c wk m).length = 0)
section
variable (a : Option Addr) (n cap : Nat) (gm : Nat → List UInt8) (gl gd : Nat → Int) (gb : Nat → List UInt8) (al : Option Addr) (m capl : Nat) (lm : Nat → List UInt8) (lf : Nat → Int) (ak : Option Addr) (nk ck : Nat) (gs : Nat → List UInt8) (day : Int) (aq : Option Addr) (nq cq : Nat) (lo : Nat → Int) (w : World) (hA : ItAt w a n gm gl gd gb) (hL : LkAt w al m lm lf) (hT : TAt w ak nk gs) (hQ : GAt w aq nq lo) (hn : n ≤ 1000) (hm : m ≤ 1000) (hcap : m ≤ capl) (h1 : Sht n gm) (h2 : Sht n gb) (h3 : Sht m lm) (hnq : nq ≤ 1000) (hnk : nk ≤ 1000)
include hA hL hT hQ hn hm hcap h1 h2 h3 hnq hnk
set_option maxRecDepth 100000 in
set_option maxHeartbeats 2000000 in
theorem may_any : Calls Tryd.prog 8 #[.slice a n cap, .slice al m capl, .slice ak nk ck, .int .i64 day, .slice aq nq cq] w fun e w' => e = .returned (.tuple #[.bool (myB (wkE (vgB n gm gl gd gb && vrB n m gm lm lf) nk (brE nq lo (thN (enB m lf) m).length) day) (wkF n gm lm gl gd gb m lf day nk gs nq lo) m), .int .i64 (wkE (vgB n gm gl gd gb && vrB n m gm lm lf) nk (brE nq lo (thN (enB m lf) m).length) day)]) ∧ Below w.heap.size w w' := by
  have HW := Lib.hid (weak_any a n cap gm gl gd gb al m capl lm lf ak nk ck gs day aq nq cq lo w hA hL hT hQ hn hm hcap h1 h2 h3 hnq hnk)
  have hlen := wkL_len (wkE (vgB n gm gl gd gb && vrB n m gm lm lf) nk (brE nq lo (thN (enB m lf) m).length) day) (wkF n gm lm gl gd gb m lf day nk gs nq lo) m
  have HM : Hid (myB (wkE (vgB n gm gl gd gb && vrB n m gm lm lf) nk (brE nq lo (thN (enB m lf) m).length) day) (wkF n gm lm gl gd gb m lf day nk gs nq lo) m = (decide (wkE (vgB n gm gl gd gb && vrB n m gm lm lf) nk (brE nq lo (thN (enB m lf) m).length) day = 0) && decide ((wkL (wkE (vgB n gm gl gd gb && vrB n m gm lm lf) nk (brE nq lo (thN (enB m lf) m).length) day) (wkF n gm lm gl gd gb m lf day nk gs nq lo) m).length = 0))) := Lib.hid rfl
  generalize myB (wkE (vgB n gm gl gd gb && vrB n m gm lm lf) nk (brE nq lo (thN (enB m lf) m).length) day) (wkF n gm lm gl gd gb m lf day nk gs nq lo) m = r at *
  have HW2 := Lib.hid (fun W e (h : WkA m (wkF n gm lm gl gd gb m lf day nk gs nq lo) (wkE (vgB n gm gl gd gb && vrB n m gm lm lf) nk (brE nq lo (thN (enB m lf) m).length) day) W e) => h.val)
  generalize wkL (wkE (vgB n gm gl gd gb && vrB n m gm lm lf) nk (brE nq lo (thN (enB m lf) m).length) day) (wkF n gm lm gl gd gb m lf day nk gs nq lo) m = L at *
  generalize wkE (vgB n gm gl gd gb && vrB n m gm lm lf) nk (brE nq lo (thN (enB m lf) m).length) day = c at *
  generalize wkF n gm lm gl gd gb m lf day nk gs nq lo = wk at *
  have hLI : ((L.length : Nat) : Int) ≤ 1000 := by omega
  clear hA hL hT h1 h2 h3 hn hm hcap hQ hnq hnk
  go_enter Tryd.func8, Tryd.ntmps8
  go_wp2_with fail
  refine HW.out.mono ?_
  rintro e w2 ⟨hr, hb2⟩
  obtain ⟨v, rfl, hv⟩ := HW2.out _ _ hr
  obtain ⟨av, cv, rfl, _⟩ := hv
  have HB := Lib.hid hb2
  clear hb2 hr HW HW2
  by_cases hc : c = 0
  · subst hc
    by_cases hl : L.length = 0
    · have hl' : (((L.length : Nat) : Int) == 0) = true := by simp [hl]
      have HR : Hid (r = true) := Lib.hid (by rw [HM.out, decide_eq_true hl]; rfl)
      clear hl
      go_wp2
      go_returns
      exact ⟨by rw [HR.out]; rfl, HB.out⟩
    · have hl' : (((L.length : Nat) : Int) == 0) = false := by simp; exact fun e => hl (by simp [e])
      have HR : Hid (r = false) := Lib.hid (by rw [HM.out, decide_eq_false hl]; rfl)
      clear hl
      go_wp2
      go_returns
      exact ⟨by rw [HR.out]; rfl, HB.out⟩
  · have hc' : (c == 0) = false := by simp [hc]
    have HR : Hid (r = false) := Lib.hid (by rw [HM.out, decide_eq_false hc]; rfl)
    clear hc
    go_wp2
    go_returns
    exact ⟨by rw [HR.out]; rfl, HB.out⟩
end
end Go.Proofs.YteojmhfocdlnoaaDoor.Tr
