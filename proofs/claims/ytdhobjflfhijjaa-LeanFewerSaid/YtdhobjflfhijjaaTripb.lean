/- The iterator of triples again: a loop body may rely on the triple's order. -/
import Derived.Test.YtdhobjflfhijjaaColl
namespace Go.Proofs.Ytdhobjflfhijjaa
open Go.RowKit Go.Shelf
attribute [local go_sem] Oper.semAt_some

set_option maxRecDepth 100000 in
set_option maxHeartbeats 2000000 in
theorem triples1_tri (F : Fence) (m : Nat) (hF : F.fn 107) (hro : F.round = none) (hm : 1 ≤ m) (l Bn n₀ n : Nat) (hn : n ≤ 1000) (hBn : Bn < n₀) (J Jx : List Tri → World → Prop)
    (hY : ∀ pre (x : Tri) W, x.1 < x.2.1 → x.2.1 < x.2.2 → x.2.2 < n → J pre W → pre.length < (trips n).length → YieldAt F (m - 1) Try.prog l #[triV x] W fun e W' =>
      (e = .returned (.bool true) ∧ J (pre ++ [x]) W' ∧ Below n₀ W W') ∨ (e = .returned (.bool false) ∧ Jx (pre ++ [x]) W'))
    (W : World) (hc : W.cell? ⟨Bn, 0, none⟩ = some (.int .i64 n)) (h0 : J [] W) :
    CallsIn F m Try.prog 107 #[.func (.yield l) #[] #[], .pointer (some ⟨Bn, 0, none⟩)] W fun e W' => (∃ v, e = .returned v) ∧
      ((∃ ys, ys = trips n ∧ J ys W') ∨ (∃ pre, pre <+: trips n ∧ Jx pre W')) := by
  refine callsIn_of_wp Try.func107 rfl hF ?_ hro
  simp only [Try.ntmps107, List.size_toArray, List.length_cons, List.length_nil, Nat.reduceAdd, Nat.reduceSub, Array.replicate_succ, Array.replicate_zero, List.push_toArray, List.append_toArray, List.nil_append, List.cons_append]
  gi_wp2
  gi_loopw [7] (fun i wr => ∃ a : Nat, a ≤ n ∧ i = .int .i64 a ∧ J (tripsI n a) wr ∧ Below n₀ W wr) (fun i _ => n - (intOf i).toNat)
  case atStart => exact ⟨0, Nat.zero_le _, rfl, h0, Below.refl _ _⟩
  case round =>
    obtain ⟨a, ha, rfl, hJ1, hB1⟩ := hrel
    have hc1 : wr.cell? ⟨Bn, 0, none⟩ = some (.int .i64 n) := (hB1.cell (p := ⟨Bn, 0, none⟩) hBn).trans hc
    by_cases hlt : a < n
    · obtain ⟨wo, rfl⟩ : ∃ wo : World, wo = wr := ⟨_, rfl⟩
      gi_wp2
      gi_loopw [4] (fun j wr => ∃ b : Nat, a + 1 ≤ b ∧ b ≤ n ∧ j = .int .i64 b ∧ J (tripsI n a ++ tripsJ n a b) wr ∧ Below n₀ wo wr) (fun j _ => n - (intOf j).toNat)
      case atStart => exact ⟨a + 1, by omega, by omega, by go_num, by rw [tripsJ_nil, List.append_nil]; exact hJ1, Below.refl _ _⟩
      case round =>
        obtain ⟨b, hb0, hb, rfl, hJ2, hB2⟩ := hrel
        have hc2 : wr.cell? ⟨Bn, 0, none⟩ = some (.int .i64 n) := (hB2.cell (p := ⟨Bn, 0, none⟩) hBn).trans hc1
        by_cases hltb : b < n
        · obtain ⟨wp, rfl⟩ : ∃ wp : World, wp = wr := ⟨_, rfl⟩
          gi_wp2
          gi_loopw [5] (fun k wr => ∃ c : Nat, b + 1 ≤ c ∧ c ≤ n ∧ k = .int .i64 c ∧ J (tripsTo n a b c) wr ∧ Below n₀ wp wr) (fun k _ => n - (intOf k).toNat)
          case atStart => exact ⟨b + 1, by omega, by omega, by go_num, by unfold tripsTo; rw [tripsK_nil, List.append_nil]; exact hJ2, Below.refl _ _⟩
          case round =>
            obtain ⟨c, hc0, hcn, rfl, hJ3, hB3⟩ := hrel
            have hc3 : wr.cell? ⟨Bn, 0, none⟩ = some (.int .i64 n) := (hB3.cell (p := ⟨Bn, 0, none⟩) hBn).trans hc2
            by_cases hltc : c < n
            · obtain ⟨fn, tmps, assign, body, hy, hR⟩ := hY (tripsTo n a b c) (a, b, c) wr (by show a < b; omega) (by show b < c; omega) hltc hJ3 (tripsTo_lt (by omega) (by omega) hltc)
              simp only [triV] at hy
              gi_wp2
              refine hR.mono ?_
              rintro e W3 (⟨rfl, hJ4, hk3⟩ | ⟨rfl, hJx3⟩)
              · gi_wp2
                go_roundw
                case rel => exact ⟨c + 1, by omega, by omega, by go_num, by rw [← tripsTo_next hc0]; exact hJ4, hB3.trans hk3⟩
                case measure => simp [intOf]; omega
              · gi_wp2
                refine bodyPost_ret (results_none rfl _ _ _) rfl ?_
                exact ⟨⟨_, rfl⟩, .inr ⟨_, by rw [tripsTo_next hc0]; exact tripsTo_pre (by omega) (by omega) (by omega), hJx3⟩⟩
            · obtain rfl : c = n := by omega
              gi_wp2
              go_roundw
              case rel => exact ⟨b + 1, by omega, by omega, by go_num, by rw [← tripsTo_j hb0]; exact hJ3, hB2.trans hB3⟩
              case measure => simp [intOf]; omega
        · obtain rfl : b = n := by omega
          gi_wp2
          go_roundw
          case rel => exact ⟨a + 1, by omega, by go_num, by rw [tripsI_succ]; exact hJ2, hB1.trans hB2⟩
          case measure => simp [intOf]; omega
    · obtain rfl : a = n := by omega
      gi_wp2
      go_end0
      exact ⟨⟨_, rfl⟩, .inl ⟨_, rfl, hJ1⟩⟩

/-- A triple of indexes below n. -/
abbrev TriN (n : Nat) := { t : Tri // t.1 < t.2.1 ∧ t.2.1 < t.2.2 ∧ t.2.2 < n }
theorem triples_sub (F : Fence) (m : Nat) (hF : F.fn 107) (hro : F.round = none) (hm : 1 ≤ m) (Bn n₀ n : Nat) (hn : n ≤ 1000) (w : World) (hBn : Bn < n₀) (hn₀ : n₀ ≤ w.heap.size)
    (hc : w.cell? ⟨Bn, 0, none⟩ = some (.int .i64 n)) :
    SeqStopsK F m Try.prog 107 #[.pointer (some ⟨Bn, 0, none⟩)] (fun x : TriN n => #[triV x.1]) (Below n₀) (fun ys => ys.map (·.1) = trips n) (fun pre => pre.map (·.1) <+: trips n) (trips n).length w := fun l J Jx W hW _ _ hY h0 => by
  refine (triples1_tri F m hF hro hm l Bn n₀ n hn hBn (fun pre W => ∃ q : List (TriN n), q.map (·.1) = pre ∧ J q W) (fun pre W => ∃ q : List (TriN n), q.map (·.1) = pre ∧ Jx q W) ?_ W ((hW.cell (p := ⟨Bn, 0, none⟩) (by show Bn < _; omega)).trans hc) ⟨[], rfl, h0⟩).mono ?_
  · rintro pre x W1 h1 h2 h3 ⟨q, rfl, hq⟩ hlen
    refine (hY q ⟨x, h1, h2, h3⟩ W1 hq (by simpa using hlen)).mono ?_
    rintro e w' (⟨rfl, h4, h5⟩ | ⟨rfl, h4⟩)
    · exact .inl ⟨rfl, ⟨_, by simp, h4⟩, h5⟩
    · exact .inr ⟨rfl, ⟨_, by simp, h4⟩⟩
  · rintro e w' ⟨hv, ⟨ys, rfl, q, hq, h4⟩ | ⟨pre, hp, q, rfl, h4⟩⟩
    · exact ⟨hv, .inl ⟨q, hq, h4⟩⟩
    · exact ⟨hv, .inr ⟨q, hp, h4⟩⟩
end Go.Proofs.Ytdhobjflfhijjaa
