/- The shares with a man beside the loads. -/
import Derived.Test.YtnhkkboddoiinaaGrowl
import Derived.Test.YtnhkkboddoiinaaShares
import Derived.Deep.RegionWith
namespace Go.Proofs.Ytnhkkboddoiinaa
open Go.RowKit
attribute [local go_sem] After.cell After.frozen After.lt After.le After.ne After.ne' After.set_eq After.size_set After.lt_add

/-- Loads, at most one more than a cradle has. -/
def Good21 (s : Int) (ps : List (Int × Int)) : Prop := Btw s 1 100000 ∧ ps.length ≤ 21 ∧ ∀ k, k < ps.length → OkL s (ldAt ps k)
theorem take_bd21 {s : Int} {ps : List (Int × Int)} (h : Good21 s ps) (k : Nat) : 0 ≤ fS s (ps.take k) ∧ fS s (ps.take k) ≤ 2100000000000 ∧ 0 ≤ sS (ps.take k) ∧ sS (ps.take k) ≤ 2100000000000 ∧ 0 ≤ aS (ps.take k) ∧ aS (ps.take k) ≤ 21000000 := by
  have := sums_bd h.1 (ps.take k) (fun p hp => by
    obtain ⟨i, hi, rfl⟩ := mem_ldAt (List.mem_of_mem_take hp)
    exact h.2.2 i hi)
  have h2 := h.2.1
  have h3 : (ps.take k).length ≤ ps.length := by simp; omega
  omega
theorem good21_snoc {s at' n : Int} {ps : List (Int × Int)} (h : GoodL s ps) (ha : Btw at' 0 s) (hn : Ld n) : Good21 s (ps ++ [(at', n)]) := by
  refine ⟨h.1, by have := h.2.1; simp; omega, fun k hk => ?_⟩
  rcases Nat.lt_or_ge k ps.length with h1 | h1
  · have e : ldAt (ps ++ [(at', n)]) k = ldAt ps k := by unfold ldAt; simp [List.getD_eq_getElem?_getD, List.getElem?_append_left h1]
    rw [e]; exact h.2.2 k h1
  · obtain rfl : k = ps.length := by simp at hk; omega
    have e : ldAt (ps ++ [(at', n)]) ps.length = (at', n) := by unfold ldAt; simp [List.getD_eq_getElem?_getD]
    rw [e]; exact ⟨ha, hn⟩
set_option maxRecDepth 100000 in
set_option maxHeartbeats 1000000 in
theorem shares21_row (s : Int) (b off cap : Nat) (ps : List (Int × Int)) (w : World) (hb : b < w.heap.size) (hG : Good21 s ps) (hc : PrCells w b off ps) :
    Calls Try.prog 71 #[.int .i64 s, .slice (some ⟨b, off, none⟩) ps.length cap] w fun e w' => e = .returned (.tuple #[.int .i64 (fS s ps), .int .i64 (sS ps)]) ∧ Below w.heap.size w w' := by
  have HC := Lib.hid hc
  have HG := Lib.hid hG
  have hl := hG.2.1
  clear hc hG
  go_enter Try.func71, Try.ntmps71
  go_wp2
  go_loopw [4, 5, 7, 10] (fun f t u i wr => ∃ k : Nat, k ≤ ps.length ∧ i = .int .i64 k ∧ f = .int .i64 (fS s (ps.take k)) ∧ t = .int .i64 (sS (ps.take k)) ∧ ∃ x : After w, wr = x.w) (fun _ _ _ i _ => ps.length - (intOf i).toNat)
  case atStart => exact ⟨0, by omega, rfl, rfl, rfl, ⟨w, Below.refl _ _⟩, rfl⟩
  case round =>
    obtain ⟨k, hk, rfl, rfl, rfl, x, rfl⟩ := hrel
    have hbx := x.size_lt hb
    by_cases hlt : k < ps.length
    · obtain ⟨c1, c2⟩ := HC.out k hlt
      obtain ⟨t1, t2, t3, t4, _, _⟩ := take_bd21 HG.out k
      obtain ⟨o1, o2, o3, o4, o5, o6, o7, o8, o9, o10⟩ := okL_bd HG.out.1 (HG.out.2.2 k hlt)
      have E1 : Hid (fS s (ps.take (k + 1)) = fS s (ps.take k) + (ldAt ps k).2 * (s - (ldAt ps k).1)) := Lib.hid (by rw [take_one' (0, 0) hlt, fS_snoc]; rfl)
      have E2 : Hid (sS (ps.take (k + 1)) = sS (ps.take k) + (ldAt ps k).2 * (ldAt ps k).1) := Lib.hid (by rw [take_one' (0, 0) hlt, sS_snoc]; rfl)
      unfold ldAt at *
      generalize ps.getD k (0, 0) = p at *
      obtain ⟨h, v⟩ := p
      dsimp only at *
      go_wp2
      go_roundw
      case rel => exact ⟨k + 1, by omega, by go_num, by rw [E1.out], by rw [E2.out], ⟨_, x.out.alloc x.out.size _⟩, rfl⟩
      case measure => simp [intOf]; omega
    · obtain rfl : k = ps.length := by omega
      go_wp2
      go_returns
      exact ⟨by rw [List.take_length]; rfl, by (repeat' (first | (with_reducible exact Below.refl _ _) | (with_reducible assumption) | (with_reducible refine Below.alloc ?_ ?_ _) | (with_reducible refine Below.drew ?_) | (with_reducible refine below_drewN ?_ _) | (with_reducible refine Below.setCell ?_ ?_ _) | (with_reducible refine below_after ?_ ?_ _) | (with_reducible refine below_set ?_) | (with_reducible refine After.size_le _ ?_) | (with_reducible refine size_alloc_le ?_) | (with_reducible refine size_set_le ?_) | (with_reducible refine size_drewN_le ?_) | go_size))⟩
/-- The two lists that are put together. -/
theorem concatL_two (ps : List (Int × Int)) (at' n : Int) (v : Value) (w : World) (hp : Prc w w.heap.size v ps) (hl : ps.length ≤ 20) :
    Calls Try.prog 100 #[.slice (some ⟨w.heap.size + 1, 0, none⟩) 2 2] ((w.alloc (.cells #[.int .i64 at', .int .i64 n] 52)).alloc (.cells #[v, .slice (some ⟨w.heap.size, 0, none⟩) 1 1] 40))
      fun e w' => ∃ u, e = .returned u ∧ w'.ownsRow (w.heap.size + 2) 52 2 u (ps ++ [(at', n)]).length (pcv (ps ++ [(at', n)])) ∧ Below (w.heap.size + 2) ((w.alloc (.cells #[.int .i64 at', .int .i64 n] 52)).alloc (.cells #[v, .slice (some ⟨w.heap.size, 0, none⟩) 1 1] 40)) w' := by
  have hB : Below w.heap.size w ((w.alloc (.cells #[.int .i64 at', .int .i64 n] 52)).alloc (.cells #[v, .slice (some ⟨w.heap.size, 0, none⟩) 1 1] 40)) := by (repeat' (first | (with_reducible exact Below.refl _ _) | (with_reducible assumption) | (with_reducible refine Below.alloc ?_ ?_ _) | (with_reducible refine Below.drew ?_) | (with_reducible refine below_drewN ?_ _) | (with_reducible refine Below.setCell ?_ ?_ _) | (with_reducible refine below_after ?_ ?_ _) | (with_reducible refine below_set ?_) | (with_reducible refine After.size_le _ ?_) | (with_reducible refine size_alloc_le ?_) | (with_reducible refine size_set_le ?_) | (with_reducible refine size_drewN_le ?_) | go_size))
  have hP := prc_on hp hB
  generalize hW : (w.alloc (.cells #[.int .i64 at', .int .i64 n] 52)).alloc (.cells #[v, .slice (some ⟨w.heap.size, 0, none⟩) 1 1] 40) = W at *
  have hs : W.heap.size = w.heap.size + 2 := by subst hW; simp
  have c0 : W.cell? ⟨w.heap.size + 1, 0, none⟩ = some v := by subst hW; go_simp
  have c1 : W.cell? ⟨w.heap.size + 1, 1, none⟩ = some (.slice (some ⟨w.heap.size, 0, none⟩) 1 1) := by subst hW; go_simp
  have c2 : W.cell? ⟨w.heap.size, 0, none⟩ = some (.int .i64 at') := by subst hW; go_simp
  have c3 : W.cell? ⟨w.heap.size, 1, none⟩ = some (.int .i64 n) := by subst hW; go_simp
  have hq : Prc W W.heap.size (.slice (some ⟨w.heap.size, 0, none⟩) 1 1) [(at', n)] := .inr (.inr ⟨w.heap.size, 0, 1, rfl, by simp, by simp, by omega, by omega, fun i hi => by
    obtain rfl : i = 0 := by simp at hi; omega
    exact ⟨c2, c3⟩⟩)
  rw [← hs]
  exact concatL_any 2 (fun k => if k = 0 then v else .slice (some ⟨w.heap.size, 0, none⟩) 1 1) (fun k => if k = 0 then ps else [(at', n)]) (fun k => if k = 0 then [] else if k = 1 then ps else ps ++ [(at', n)]) (w.heap.size + 1) W (by omega) (by omega)
    (fun k hk => by rcases (show k = 0 ∨ k = 1 by omega) with rfl | rfl <;> first | exact c0 | exact c1)
    (fun k hk => by rcases (show k = 0 ∨ k = 1 by omega) with rfl | rfl <;> first | exact hP | exact hq)
    rfl (fun k hk => by rcases (show k = 0 ∨ k = 1 by omega) with rfl | rfl <;> simp)
    (fun k hk => by rcases (show k = 0 ∨ k = 1 ∨ k = 2 by omega) with rfl | rfl | rfl <;> simp <;> omega)
    (by simp)


/-- Concat and then the shares, in one. -/
theorem man_shares (s at' n : Int) (ps : List (Int × Int)) (v' : Value) (B : Nat) (W : World) (hG : GoodL s ps) (ha : Btw at' 0 s) (hn : Ld n) (ho : W.ownsRow B 52 2 v' (ps ++ [(at', n)]).length (pcv (ps ++ [(at', n)]))) :
    Calls Try.prog 71 #[.int .i64 s, v'] W fun e w' => e = .returned (.tuple #[.int .i64 (fS s ps + n * (s - at')), .int .i64 (sS ps + n * at')]) ∧ Below W.heap.size W w' := by
  obtain ⟨g, cap, rfl, h1, h2, h3, h4⟩ := prOwn_of ho (by simp)
  have := shares21_row s g 0 cap (ps ++ [(at', n)]) W h2 (good21_snoc hG ha hn) h4
  rw [fS_snoc, sS_snoc] at this
  exact this
end Go.Proofs.Ytnhkkboddoiinaa
