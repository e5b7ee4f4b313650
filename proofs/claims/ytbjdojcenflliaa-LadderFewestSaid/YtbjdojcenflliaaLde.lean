/- reachFrom; the counts' map written; how great a count is. -/
import Derived.Test.YtbjdojcenflliaaLdb
import Derived.Test.YtbjdojcenflliaaLdc
import Derived.RangeFuncOwn
namespace Go.Proofs.Ytbjdojcenflliaa
open Go.RowKit Go.Shelf Go.Maps
attribute [local go_sem] Oper.semAt_some

theorem reachFrom_any (a : Option Addr) (n cap : Nat) (hg : Nat → Int) (us : Nat → Bool) (fi st la : Int) (i : Nat) (w : World) (hA : JtAt w a n hg us) (hi : i < n) (h1 : -1000000 ≤ hg i ∧ hg i ≤ 1000000) (h2 : -1000000 ≤ st ∧ st ≤ 1000000) :
    Calls Try.prog 70 #[.agg #[.slice a n cap, .int .i64 fi, .int .i64 st, .int .i64 la], .int .i64 (i : Nat)] w fun e w' => e = .returned (.int .i64 (hg i + st)) ∧ Below w.heap.size w w' := by
  have HA := Lib.hid hA
  have hii : (i : Int) < (n : Int) := by omega
  clear hA
  go_enter Try.func70, Try.ntmps70
  go_wp2
  obtain ⟨W0, hW0⟩ : ∃ W0, w.alloc (.cells #[.slice a n cap, .int .i64 fi, .int .i64 st, .int .i64 la] 60) = W0 := ⟨_, rfl⟩
  have b0 : Below w.heap.size w W0 := by rw [← hW0]; (repeat' (first | (with_reducible exact Below.refl _ _) | (with_reducible assumption) | (with_reducible refine Below.alloc ?_ ?_ _) | (with_reducible refine Below.drew ?_) | (with_reducible refine below_drewN ?_ _) | (with_reducible refine Below.setCell ?_ ?_ _) | (with_reducible refine below_after ?_ ?_ _) | (with_reducible refine below_set ?_) | (with_reducible refine After.size_le _ ?_) | (with_reducible refine size_alloc_le ?_) | (with_reducible refine size_set_le ?_) | (with_reducible refine size_drewN_le ?_) | go_size))
  have er := rtB_new w 60 (.slice a n cap) fi st la
  rw [hW0] at er
  rw [hW0]
  have g0 := er.g0
  have g2 := er.g2
  obtain ⟨b, off, rfl, hb, c0, c1⟩ := HA.out.on b0 i hi
  have HB := Lib.hid b0
  clear er hW0 b0
  go_region
  go_wp2
  go_ret
  exact ⟨by go_num, HB.out.trans ((Fr.refl (M := fun _ => False) W0).drew.below HB.out.size (fun _ _ h => h))⟩
theorem run_makeMap_0 (w : World) : (Instr.makeMap 81 none).run Try.prog w = .ok (.map (some w.heap.size)) (w.alloc (.map #[] 0)) := by
  simp [Instr.makeMap, Result.andThen]
theorem Ic.put {W : World} {B t : Nat} {c : Nat → Nat} {D : DataW Unit} {k v : Nat} (hI : IsMap D) (h3 : ∀ k : Nat, D.atKey (.int .i64 (k : Nat)) (.lit (.int .i64 0)) = .lit (.int .i64 (c k : Nat))) (h4 : ∀ k : Nat, Maps.has D (.int .i64 (k : Nat)) = decide (c k ≠ 0)) (hv : v ≠ 0) (ho : W.ownsMap Try.prog 3 (plainElem Try.prog 3) B t (D.put (.int .i64 (k : Nat)) (.lit (.int .i64 (v : Nat))))) : Ic W B t (updC c k v) := by
  have ik : WideAt.IsKeyLit (.int .i64 (k : Nat)) := by first | trivial | rfl | (unfold WideAt.IsKeyLit; simp)
  refine ⟨_, ho, hI.put _ _, fun j => ?_, fun j => ?_⟩
  · unfold updC
    by_cases e : j = k
    · subst e; rw [if_pos rfl]; exact atKey_put_same hI ik _ _
    · rw [if_neg e, atKey_put_other (by intro q; cases q; exact e rfl)]; exact h3 j
  · unfold updC
    by_cases e : j = k
    · subst e; rw [if_pos rfl, has_put_same hI ik]; simp [hv]
    · rw [if_neg e, has_put_other (by intro q; cases q; exact e rfl)]; exact h4 j
theorem ctS_le {h : Nat → Int} {u : Nat → Bool} {N : Nat} {st la : Int} : ∀ k i : Nat, ctS h u N st la k i ≤ k
  | 0, _ => Nat.le_refl 0
  | k + 1, i => by
    show (if i = N - (k + 1) then ctV h u N st la (ctS h u N st la k) (N - (k + 1)) else ctS h u N st la k i) ≤ _
    have := ctS_le (h := h) (u := u) (N := N) (st := st) (la := la) k
    split
    · unfold ctV
      split
      · omega
      · split
        · omega
        · rename_i h0
          obtain ⟨j, _, hj⟩ := ls_some h0
          have := this j
          omega
    · have := this i; omega
theorem updC_same {c : Nat → Nat} {x : Nat} (h : c x = 0) : updC c x 0 = c := by
  funext k
  unfold updC
  split
  · subst_vars; exact h.symm
  · rfl
end Go.Proofs.Ytbjdojcenflliaa
