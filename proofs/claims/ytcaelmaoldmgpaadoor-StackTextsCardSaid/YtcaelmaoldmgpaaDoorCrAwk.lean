/- The laws' example: the chapter's course has its arm in the wind. -/
import Derived.Test.YtcaelmaoldmgpaaDoorCrArmp
namespace Go.Proofs.YtcaelmaoldmgpaaDoor.Cr
open Go.Proofs.YtcaelmaoldmgpaaDoor
open Go.RowKit

def eq2 (a b a' b' : Int) : Bool := decide (a = a' ∧ b = b')
theorem eq2_self (a b : Int) : eq2 a b a b = true := by simp [eq2]
theorem eql_ratio (a b a' b' : Int) (w : World) : (binOp .eql 40 (.agg #[.int .i64 a, .int .i64 b]) (.agg #[.int .i64 a', .int .i64 b'])).run Tryd.prog w = .ok (.bool (eq2 a b a' b')) w := by
  rw [run_eql_struct]
  go_simp
  by_cases h1 : a = a' <;> by_cases h2 : b = b' <;> simp [h1, h2, eq2]
theorem neq_ratio (a b a' b' : Int) (w : World) : (binOp .neq 40 (.agg #[.int .i64 a, .int .i64 b]) (.agg #[.int .i64 a', .int .i64 b'])).run Tryd.prog w = .ok (.bool (!eq2 a b a' b')) w := by
  rw [run_neq_struct]
  go_simp
  by_cases h1 : a = a' <;> by_cases h2 : b = b' <;> simp [h1, h2, eq2]
attribute [local go_sem 10000] eql_ratio neq_ratio
attribute [local go_sem] After.cell After.frozen After.lt After.le After.ne After.ne' After.set_eq After.size_set After.lt_add eq2_self

/-- The chapter's course. -/
def aF (_ : Nat) (j : Nat) : Int := if j = 0 then 1000 else if j = 1 then 500 else if j = 2 then 300 else if j = 3 then 1000 else 0
theorem aF_good : GoodC 1 aF := ⟨by omega, by omega, fun k hk => by unfold OkC InCr aF; simp⟩
theorem aF_arm : ratN (amE (bI aF 1 0) 100 2) (9810000 * (bI aF 1 0).wt) = 5000 ∧ ratD (amE (bI aF 1 0) 100 2) (9810000 * (bI aF 1 0).wt) = 981 ∧ ratN (amN (bI aF 1 0) 100 2) (9810000 * (bI aF 1 0).wt) = 0 ∧ ratD (amN (bI aF 1 0) 100 2) (9810000 * (bI aF 1 0).wt) = 1 := by
  have e : bI aF 1 0 = ⟨0, aF 0, 1000, 0, 0, 500000, 500000000⟩ := by
    rw [bI_next (by omega : 0 < 1), bI_top]
    simp [BedV.onto, zbed, aF]
  rw [e]
  have h1 : amE ⟨0, aF 0, 1000, 0, 0, 500000, 500000000⟩ 100 2 = 50000000000 := by simp [amE, awE, aF]
  have h2 : amN ⟨0, aF 0, 1000, 0, 0, 500000, 500000000⟩ 100 2 = 0 := by simp [amN, awN, aF]
  rw [h1, h2]
  exact ⟨by decide +kernel, by decide +kernel, by decide +kernel, by decide +kernel⟩

/-- Arm of a good stack, in every later world. -/
theorem arm_good (b off cap n : Nat) (f : Nat → Nat → Int) (k s : Nat) (p : Int) (w : World) (hb : b < w.heap.size) (hlen : n ≤ 1000) (hc : CrCells w b off n f) (hG : GoodC n f) (hk : k < n) (hT : Tab w) (hs : s < 4) (h0 : 0 ≤ p) (h1 : p ≤ 10000) :
    Calls Tryd.prog 18 #[.slice (some ⟨b, off, none⟩) n cap, .int .i64 (k : Nat), .int .i64 p, .int .i64 s] w fun r w' => r = .returned (.tuple #[.agg #[.int .i64 (ratN (amE (bI f n k) p s) (9810000 * (bI f n k).wt)), .int .i64 (ratD (amE (bI f n k) p s) (9810000 * (bI f n k).wt))], .agg #[.int .i64 (ratN (amN (bI f n k) p s) (9810000 * (bI f n k).wt)), .int .i64 (ratD (amN (bI f n k) p s) (9810000 * (bI f n k).wt))], .int .i64 0]) ∧ Below w.heap.size w w' := by
  have hB : ∀ W, Below w.heap.size w W → BSay W (.slice (some ⟨b, off, none⟩) n cap) (k : Nat) (bI f n k) 0 := fun W hW V hV => by
    have hWV := hW.trans (hV.mono hW.size)
    have hbV : b < V.heap.size := Nat.lt_of_lt_of_le hb hWV.size
    have := bedAt_ok b off cap n f (k : Nat) V hbV (hc.on hb hWV) hG (fun U hU => by
      have := valid_any b off cap n f U (Nat.lt_of_lt_of_le hbV hU.size) hlen ((hc.on hb hWV).on hbV hU)
      rwa [decide_eq_true hG] at this)
    have e1 : bdV f n (k : Nat) = bI f n k := by unfold bdV; rw [if_pos (by omega)]; simp
    have e2 : bdE n (k : Nat) = 0 := if_pos (by omega)
    rw [e1, e2] at this
    exact this
  have hw : WindOk p s := ⟨⟨h0, h1⟩, by constructor <;> omega⟩
  exact armR_ok _ n cap (k : Nat) p s (bI f n k) w (fun W hW => by
    have := bedInWind_any _ n cap (k : Nat) p s (bI f n k) W (hB W hW)
    rwa [show wiV (bI f n k) 0 p s = bI f n k from if_neg (fun h => h.2 hw), show wiE 0 p s = 0 from if_neg (fun h => h.2 hw)] at this) (inB_bI hG hk) hT hs h0 h1

set_option maxRecDepth 100000 in
set_option maxHeartbeats 1000000 in
theorem awake_any (w : World) (hT : Tab w) :
    Calls Tryd.prog 5 #[] w fun e w' => e = .returned (.bool true) ∧ Below w.heap.size w w' := by
  have HA : Hid (∀ W, Below w.heap.size w W → CrCells W w.heap.size 0 1 aF → w.heap.size < W.heap.size → Calls Tryd.prog 18 #[.slice (some ⟨w.heap.size, 0, none⟩) 1 1, .int .i64 0, .int .i64 100, .int .i64 2] W fun r w' => r = .returned (.tuple #[.agg #[.int .i64 5000, .int .i64 981], .agg #[.int .i64 0, .int .i64 1], .int .i64 0]) ∧ Below W.heap.size W w') := fun W hW hc hb => by
    have := arm_good w.heap.size 0 1 1 aF 0 2 100 W hb (by omega) hc aF_good (by omega) (hT.on hW) (by omega) (by omega) (by omega)
    rw [aF_arm.1, aF_arm.2.1, aF_arm.2.2.1, aF_arm.2.2.2] at this
    exact this
  clear hT
  go_enter Tryd.func5, Tryd.ntmps5
  go_wp2_with fail
  refine calls_after (HA.out _ ?b ?c ?d) ?_
  case b => (repeat' (first | (with_reducible exact Below.refl _ _) | (with_reducible assumption) | (with_reducible refine Below.alloc ?_ ?_ _) | (with_reducible refine Below.drew ?_) | (with_reducible refine below_drewN ?_ _) | (with_reducible refine Below.setCell ?_ ?_ _) | (with_reducible refine below_after ?_ ?_ _) | (with_reducible refine below_set ?_) | (with_reducible refine After.size_le _ ?_) | (with_reducible refine size_alloc_le ?_) | (with_reducible refine size_set_le ?_) | (with_reducible refine size_drewN_le ?_) | go_size))
  case c =>
    intro i hi
    obtain rfl : i = 0 := by omega
    simp [go_sem, aF]
  case d => simp
  intro x1
  go_wp2
  go_ret
  exact ⟨rfl, by (repeat' (first | (with_reducible exact Below.refl _ _) | (with_reducible assumption) | (with_reducible refine Below.alloc ?_ ?_ _) | (with_reducible refine Below.drew ?_) | (with_reducible refine below_drewN ?_ _) | (with_reducible refine Below.setCell ?_ ?_ _) | (with_reducible refine below_after ?_ ?_ _) | (with_reducible refine below_set ?_) | (with_reducible refine After.size_le _ ?_) | (with_reducible refine size_alloc_le ?_) | (with_reducible refine size_set_le ?_) | (with_reducible refine size_drewN_le ?_) | go_size))⟩
end Go.Proofs.YtcaelmaoldmgpaaDoor.Cr
