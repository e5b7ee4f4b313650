/- The iterator of triples: whatever loop body, all triples come, in the order of their indexes. -/
import Derived.RangeFuncNested
import Derived.RangeFuncBound
import Derived.RangeFuncCalls
import Derived.RangeFuncLeaves
import Derived.RangeFuncBox
import Derived.Shelf.Abstract
import Derived.Shelf.RegionOpen
import Derived.WalkKit
import Derived.OwnWalkIn
import Derived.TacticsInMore
import Derived.LoopNIn
import Derived.LoopIn
import Derived.Maps.AppendAt
import Derived.Test.YtldopcneellfbaaGreatDoorAwNum
namespace Go.Proofs.YtldopcneellfbaaGreatDoor.Aw
open Go.Proofs.YtldopcneellfbaaGreatDoor
open Go.RowKit Go.Shelf
attribute [local go_sem] Oper.semAt_some

abbrev Tri := Nat × Nat × Nat
def tripsK (i j k : Nat) : List Tri := (List.range' (j + 1) (k - (j + 1))).map fun c => (i, j, c)
def tripsJ (n i j : Nat) : List Tri := (List.range' (i + 1) (j - (i + 1))).flatMap fun b => tripsK i b n
def tripsI (n i : Nat) : List Tri := (List.range' 0 i).flatMap fun a => tripsJ n a n
/-- All triples of indexes below n. -/
def trips (n : Nat) : List Tri := tripsI n n
/-- What has come ahead of (i, j, k). -/
def tripsTo (n i j k : Nat) : List Tri := tripsI n i ++ tripsJ n i j ++ tripsK i j k
def triV (x : Tri) : Value := .agg #[.int .i64 x.1, .int .i64 x.2.1, .int .i64 x.2.2]

theorem tripsK_nil (i j : Nat) : tripsK i j (j + 1) = [] := by simp [tripsK]
theorem tripsJ_nil (n i : Nat) : tripsJ n i (i + 1) = [] := by simp [tripsJ]
theorem tripsK_succ {i j k : Nat} (h : j + 1 ≤ k) : tripsK i j (k + 1) = tripsK i j k ++ [(i, j, k)] := by
  unfold tripsK
  rw [show k + 1 - (j + 1) = (k - (j + 1)) + 1 by omega, List.range'_1_concat]
  simp [show j + 1 + (k - (j + 1)) = k by omega]
theorem tripsJ_succ {n i j : Nat} (h : i + 1 ≤ j) : tripsJ n i (j + 1) = tripsJ n i j ++ tripsK i j n := by
  unfold tripsJ
  rw [show j + 1 - (i + 1) = (j - (i + 1)) + 1 by omega, List.range'_1_concat]
  simp [show i + 1 + (j - (i + 1)) = j by omega]
theorem tripsI_succ (n i : Nat) : tripsI n (i + 1) = tripsI n i ++ tripsJ n i n := by
  unfold tripsI
  rw [List.range'_1_concat]
  simp
theorem tripsK_pre (i j : Nat) {k k' : Nat} (h : j + 1 ≤ k) (hk : k ≤ k') : tripsK i j k <+: tripsK i j k' := by
  induction k' with
  | zero => omega
  | succ m ih =>
    rcases Nat.lt_or_ge m k with h1 | h1
    · obtain rfl : k = m + 1 := by omega
      exact List.prefix_rfl
    · rw [tripsK_succ (by omega)]
      exact (ih h1).trans (List.prefix_append _ _)
theorem tripsJ_pre (n i : Nat) {j j' : Nat} (h : i + 1 ≤ j) (hk : j ≤ j') : tripsJ n i j <+: tripsJ n i j' := by
  induction j' with
  | zero => omega
  | succ m ih =>
    rcases Nat.lt_or_ge m j with h1 | h1
    · obtain rfl : j = m + 1 := by omega
      exact List.prefix_rfl
    · rw [tripsJ_succ (by omega)]
      exact (ih h1).trans (List.prefix_append _ _)
theorem tripsI_pre (n : Nat) {i i' : Nat} (hk : i ≤ i') : tripsI n i <+: tripsI n i' := by
  induction i' with
  | zero => obtain rfl : i = 0 := by omega
            exact List.prefix_rfl
  | succ m ih =>
    rcases Nat.lt_or_ge m i with h1 | h1
    · obtain rfl : i = m + 1 := by omega
      exact List.prefix_rfl
    · rw [tripsI_succ]
      exact (ih h1).trans (List.prefix_append _ _)
theorem tripsTo_next {n i j k : Nat} (h : j + 1 ≤ k) : tripsTo n i j k ++ [(i, j, k)] = tripsTo n i j (k + 1) := by
  unfold tripsTo; rw [tripsK_succ h]; simp
theorem tripsTo_j {n i j : Nat} (h : i + 1 ≤ j) : tripsTo n i j n = tripsI n i ++ tripsJ n i (j + 1) := by
  unfold tripsTo; rw [tripsJ_succ h]; simp
theorem tripsTo_pre {n i j k : Nat} (hi : i + 1 ≤ j) (hj : j + 1 ≤ k) (hk : k ≤ n) : tripsTo n i j k <+: trips n := by
  have h1 : tripsTo n i j k <+: tripsTo n i j n := List.prefix_append_right_inj _ |>.2 (tripsK_pre i j hj hk)
  have h2 : tripsTo n i j n <+: tripsI n (i + 1) := by
    rw [tripsTo_j hi, tripsI_succ]
    exact List.prefix_append_right_inj _ |>.2 (tripsJ_pre n i (by omega) (by omega))
  exact (h1.trans h2).trans (tripsI_pre n (by omega))
theorem tripsTo_lt {n i j k : Nat} (hi : i + 1 ≤ j) (hj : j + 1 ≤ k) (hk : k < n) : (tripsTo n i j k).length < (trips n).length := by
  have := (tripsTo_pre (n := n) (i := i) (j := j) (k := k + 1) hi (by omega) (by omega)).length_le
  rw [← tripsTo_next hj] at this
  simp at this; omega

set_option maxRecDepth 100000 in
set_option maxHeartbeats 2000000 in
theorem triples1_in (F : Fence) (m : Nat) (hF : F.fn 47) (hro : F.round = none) (hm : 1 ≤ m) (l Bn n₀ n : Nat) (hn : n ≤ 1000) (hBn : Bn < n₀) (J Jx : List Tri → World → Prop)
    (hY : ∀ pre x W, J pre W → pre.length < (trips n).length → YieldAt F (m - 1) Tryz.prog l #[triV x] W fun e W' =>
      (e = .returned (.bool true) ∧ J (pre ++ [x]) W' ∧ Below n₀ W W') ∨ (e = .returned (.bool false) ∧ Jx (pre ++ [x]) W'))
    (W : World) (hc : W.cell? ⟨Bn, 0, none⟩ = some (.int .i64 n)) (h0 : J [] W) :
    CallsIn F m Tryz.prog 47 #[.func (.yield l) #[] #[], .pointer (some ⟨Bn, 0, none⟩)] W fun e W' => (∃ v, e = .returned v) ∧
      ((∃ ys, ys = trips n ∧ J ys W') ∨ (∃ pre, pre <+: trips n ∧ Jx pre W')) := by
  refine callsIn_of_wp Tryz.func47 rfl hF ?_ hro
  simp only [Tryz.ntmps47, List.size_toArray, List.length_cons, List.length_nil, Nat.reduceAdd, Nat.reduceSub, Array.replicate_succ, Array.replicate_zero, List.push_toArray, List.append_toArray, List.nil_append, List.cons_append]
  gi_wp2
  gi_loopw [7] (fun i wr => ∃ a : Nat, a ≤ n ∧ i = .int .i64 a ∧ J (tripsI n a) wr ∧ Below n₀ W wr) (fun i _ => n - (intOf i).toNat)
  case atStart => exact ⟨0, Nat.zero_le _, rfl, h0, Below.refl _ _⟩
  case round =>
    obtain ⟨a, ha, rfl, hJ1, hB1⟩ := hrel
    have hc1 : wr.cell? ⟨Bn, 0, none⟩ = some (.int .i64 n) := (hB1.cell (p := ⟨Bn, 0, none⟩) hBn).trans hc
    by_cases hlt : a < n
    · obtain ⟨wo, rfl⟩ : ∃ wo : World, wo = wr := ⟨_, rfl⟩
      gi_wp2
      gi_loopw [4] (fun j wr => ∃ b : Nat, a + 1 ≤ b ∧ b ≤ n ∧ j = .int .i64 b ∧ J (tripsI n a ++ tripsJ n a b) wr ∧ Below n₀ wo wr) (fun j _ => n - (intOf j).toNat)
      case atStart => exact ⟨a + 1, by omega, by omega, by go_num, by rw [tripsJ_nil, List.append_nil]; exact hJ1, Below.refl _ _⟩
      case round =>
        obtain ⟨b, hb0, hb, rfl, hJ2, hB2⟩ := hrel
        have hc2 : wr.cell? ⟨Bn, 0, none⟩ = some (.int .i64 n) := (hB2.cell (p := ⟨Bn, 0, none⟩) hBn).trans hc1
        by_cases hltb : b < n
        · obtain ⟨wp, rfl⟩ : ∃ wp : World, wp = wr := ⟨_, rfl⟩
          gi_wp2
          gi_loopw [5] (fun k wr => ∃ c : Nat, b + 1 ≤ c ∧ c ≤ n ∧ k = .int .i64 c ∧ J (tripsTo n a b c) wr ∧ Below n₀ wp wr) (fun k _ => n - (intOf k).toNat)
          case atStart => exact ⟨b + 1, by omega, by omega, by go_num, by unfold tripsTo; rw [tripsK_nil, List.append_nil]; exact hJ2, Below.refl _ _⟩
          case round =>
            obtain ⟨c, hc0, hcn, rfl, hJ3, hB3⟩ := hrel
            have hc3 : wr.cell? ⟨Bn, 0, none⟩ = some (.int .i64 n) := (hB3.cell (p := ⟨Bn, 0, none⟩) hBn).trans hc2
            by_cases hltc : c < n
            · obtain ⟨fn, tmps, assign, body, hy, hR⟩ := hY (tripsTo n a b c) (a, b, c) wr hJ3 (tripsTo_lt (by omega) (by omega) hltc)
              simp only [triV] at hy
              gi_wp2
              refine hR.mono ?_
              rintro e W3 (⟨rfl, hJ4, hk3⟩ | ⟨rfl, hJx3⟩)
              · gi_wp2
                go_roundw
                case rel => exact ⟨c + 1, by omega, by omega, by go_num, by rw [← tripsTo_next hc0]; exact hJ4, hB3.trans hk3⟩
                case measure => simp [intOf]; omega
              · gi_wp2
                refine bodyPost_ret (results_none rfl _ _ _) rfl ?_
                exact ⟨⟨_, rfl⟩, .inr ⟨_, by rw [tripsTo_next hc0]; exact tripsTo_pre (by omega) (by omega) (by omega), hJx3⟩⟩
            · obtain rfl : c = n := by omega
              gi_wp2
              go_roundw
              case rel => exact ⟨b + 1, by omega, by omega, by go_num, by rw [← tripsTo_j hb0]; exact hJ3, hB2.trans hB3⟩
              case measure => simp [intOf]; omega
        · obtain rfl : b = n := by omega
          gi_wp2
          go_roundw
          case rel => exact ⟨a + 1, by omega, by go_num, by rw [tripsI_succ]; exact hJ2, hB1.trans hB2⟩
          case measure => simp [intOf]; omega
    · obtain rfl : a = n := by omega
      gi_wp2
      go_end0
      exact ⟨⟨_, rfl⟩, .inl ⟨_, rfl, hJ1⟩⟩
end Go.Proofs.YtldopcneellfbaaGreatDoor.Aw
