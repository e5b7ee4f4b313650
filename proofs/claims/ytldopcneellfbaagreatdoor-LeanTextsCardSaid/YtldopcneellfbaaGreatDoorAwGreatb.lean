/- The greatest of the triples, by their bows; the first of several. -/
import Derived.Test.YtldopcneellfbaaGreatDoorAwGreat
namespace Go.Proofs.YtldopcneellfbaaGreatDoor.Aw
open Go.Proofs.YtldopcneellfbaaGreatDoor
open Go.RowKit
attribute [local go_sem] After.cell After.frozen After.lt After.le After.ne After.ne' After.set_eq After.size_set After.lt_add

/-- The first index of what is greatest among the first k, by a comparison of indexes. -/
def bestTo (f : Nat → Nat → Int) : Nat → Nat
  | 0 => 0
  | k + 1 => if 0 < f k (bestTo f k) then k else bestTo f k
theorem bestTo_lt (f : Nat → Nat → Int) : ∀ k, 0 < k → bestTo f k < k
  | 0, h => absurd h (by omega)
  | k + 1, _ => by
    unfold bestTo
    rcases Nat.eq_zero_or_pos k with rfl | h
    · split <;> simp [bestTo]
    · have := bestTo_lt f k h
      split <;> omega
theorem bestTo_le (f : Nat → Nat → Int) (k : Nat) : bestTo f k ≤ k := by
  rcases Nat.eq_zero_or_pos k with rfl | h
  · simp [bestTo]
  · have := bestTo_lt f k h; omega

def triAt (ts : List Tri) (i : Nat) : Tri := ts.getD i (0, 0, 0)

set_option maxRecDepth 100000 in
set_option maxHeartbeats 1000000 in
theorem greatTri_any (b off cap Bx g cap2 : Nat) (ps : List (Int × Int)) (ts : List Tri) (w : World) (hb : b < w.heap.size) (hB : Bx < w.heap.size) (hg : g < w.heap.size) (hlen : ps.length ≤ 1000) (hbx : w.cell? ⟨Bx, 0, none⟩ = some (.slice (some ⟨b, off, none⟩) ps.length cap))
    (hc : ∀ i, i < ps.length → w.cell? ⟨b, off + i * 2, none⟩ = some (.int .i64 (ps.getD i (0, 0)).1) ∧ w.cell? ⟨b, off + i * 2 + 1, none⟩ = some (.int .i64 (ps.getD i (0, 0)).2))
    (hts : ∀ i, i < ts.length → TriOk ps (triAt ts i)) (hA : AllIn ps) (hn : 0 < ts.length) (hn' : ts.length ≤ 1000000000)
    (ht : ∀ i, i < ts.length → w.cell? ⟨g, i * 3, none⟩ = some (.int .i64 (triAt ts i).1) ∧ w.cell? ⟨g, i * 3 + 1, none⟩ = some (.int .i64 (triAt ts i).2.1) ∧ w.cell? ⟨g, i * 3 + 2, none⟩ = some (.int .i64 (triAt ts i).2.2)) :
    Calls Tryz.prog 27 #[.slice (some ⟨g, 0, none⟩) ts.length cap2, .func (.func 28) #[] #[.pointer (some ⟨Bx, 0, none⟩)]] w fun e w' => e = .returned (.int .i64 (bestTo (fun i j => cmpB ps (triAt ts i) (triAt ts j)) ts.length)) ∧ Below w.heap.size w w' := by
  have HX : Hid (∀ i j, i < ts.length → j < ts.length → ∀ W : World, Below w.heap.size w W → Calls Tryz.prog 28 #[.agg #[.int .i64 (triAt ts i).1, .int .i64 (triAt ts i).2.1, .int .i64 (triAt ts i).2.2], .agg #[.int .i64 (triAt ts j).1, .int .i64 (triAt ts j).2.1, .int .i64 (triAt ts j).2.2], .pointer (some ⟨Bx, 0, none⟩)] W fun e w' => e = .returned (.int .i64 (cmpB ps (triAt ts i) (triAt ts j))) ∧ Below W.heap.size W w') := fun i j hi hj W hW =>
    near1_any b off cap Bx ps _ _ W (Nat.lt_of_lt_of_le hb hW.size) (Nat.lt_of_lt_of_le hB hW.size) hlen ((hW.cell (p := ⟨Bx, 0, none⟩) hB).trans hbx) (fun i hi => ⟨(hW.cell (p := ⟨b, _, none⟩) hb).trans (hc i hi).1, (hW.cell (p := ⟨b, _, none⟩) hb).trans (hc i hi).2⟩) (hts i hi) (hts j hj) hA
  have HT := Lib.hid ht
  clear hc hts hA ht hbx
  have HF : Hid (∃ f : Nat → Nat → Int, ∀ i j, f i j = cmpB ps (triAt ts i) (triAt ts j)) := ⟨_, fun _ _ => rfl⟩
  have HX2 : Hid (∀ i j, i < ts.length → j < ts.length → ∀ W : World, Below w.heap.size w W → Calls Tryz.prog 28 #[.agg #[.int .i64 (triAt ts i).1, .int .i64 (triAt ts i).2.1, .int .i64 (triAt ts i).2.2], .agg #[.int .i64 (triAt ts j).1, .int .i64 (triAt ts j).2.1, .int .i64 (triAt ts j).2.2], .pointer (some ⟨Bx, 0, none⟩)] W fun e w' => e = .returned (.int .i64 ((fun i j => cmpB ps (triAt ts i) (triAt ts j)) i j)) ∧ Below W.heap.size W w') := HX
  clear HX HF
  generalize (fun i j => cmpB ps (triAt ts i) (triAt ts j)) = f at *
  go_enter Tryz.func27, Tryz.ntmps27
  go_wp2
  go_loopw [5, 9] (fun v i wr => ∃ k : Nat, k ≤ ts.length ∧ i = .int .i64 k ∧ v = .int .i64 (bestTo f k) ∧ ∃ x : After w, wr = x.w) (fun _ i _ => ts.length - (intOf i).toNat)
  case atStart => exact ⟨0, by omega, rfl, rfl, ⟨w, Below.refl _ _⟩, rfl⟩
  case round =>
    obtain ⟨k, hk, rfl, rfl, x, rfl⟩ := hrel
    by_cases hlt : k < ts.length
    · have hq : bestTo f k < ts.length := by have := bestTo_le f k; omega
      obtain ⟨c1, c2, c3⟩ := HT.out k hlt
      obtain ⟨d1, d2, d3⟩ := HT.out _ hq
      have HC := Lib.hid (HX2.out k _ hlt hq)
      have HS : Hid (bestTo f (k + 1) = if 0 < f k (bestTo f k) then k else bestTo f k) := rfl
      generalize triAt ts k = p at *
      generalize bestTo f k = q at *
      generalize triAt ts q = r at *
      generalize f k q = v at *
      obtain ⟨p1, p2, p3⟩ := p
      obtain ⟨r1, r2, r3⟩ := r
      dsimp only at *
      have hq' : (q : Int) < (ts.length : Int) := by omega
      by_cases hv : 0 < v
      · go_wp2
        refine wp_region_after (by kernel_rfl) (by kernel_rfl) ?_; (repeat (first | go_big_quiet_step ((go_at_call 28; refine quiet_after (HC.out _ ?_); (repeat' (first | (with_reducible exact Below.refl _ _) | (with_reducible assumption) | (with_reducible refine Below.alloc ?_ ?_ _) | (with_reducible refine Below.drew ?_) | (with_reducible refine below_drewN ?_ _) | (with_reducible refine Below.setCell ?_ ?_ _) | (with_reducible refine below_after ?_ ?_ _) | (with_reducible refine below_set ?_) | (with_reducible refine After.size_le _ ?_) | (with_reducible refine size_alloc_le ?_) | (with_reducible refine size_set_le ?_) | (with_reducible refine size_drewN_le ?_) | go_size)))) | (refine wpQuiet_step (fun K hK => ?_); go_simp; first | (refine hK _ ?_; clear hK K) | (apply Exists.intro; refine ⟨fun x => ?_, hK _ ?_⟩; (go_at_call 28; refine quiet_after (HC.out _ ?_); (repeat' (first | (with_reducible exact Below.refl _ _) | (with_reducible assumption) | (with_reducible refine Below.alloc ?_ ?_ _) | (with_reducible refine Below.drew ?_) | (with_reducible refine below_drewN ?_ _) | (with_reducible refine Below.setCell ?_ ?_ _) | (with_reducible refine below_after ?_ ?_ _) | (with_reducible refine below_set ?_) | (with_reducible refine After.size_le _ ?_) | (with_reducible refine size_alloc_le ?_) | (with_reducible refine size_set_le ?_) | (with_reducible refine size_drewN_le ?_) | go_size))); clear hK K)))); refine wpQuiet_nil ?_
        intro y
        go_wp2
        go_roundw
        case rel => exact ⟨k + 1, by omega, by go_num, by rw [HS.out, if_pos hv], ⟨_, x.out.trans (y.out.mono x.out.size)⟩, rfl⟩
        case measure => simp [intOf]; omega
      · go_wp2
        refine wp_region_after (by kernel_rfl) (by kernel_rfl) ?_; (repeat (first | go_big_quiet_step ((go_at_call 28; refine quiet_after (HC.out _ ?_); (repeat' (first | (with_reducible exact Below.refl _ _) | (with_reducible assumption) | (with_reducible refine Below.alloc ?_ ?_ _) | (with_reducible refine Below.drew ?_) | (with_reducible refine below_drewN ?_ _) | (with_reducible refine Below.setCell ?_ ?_ _) | (with_reducible refine below_after ?_ ?_ _) | (with_reducible refine below_set ?_) | (with_reducible refine After.size_le _ ?_) | (with_reducible refine size_alloc_le ?_) | (with_reducible refine size_set_le ?_) | (with_reducible refine size_drewN_le ?_) | go_size)))) | (refine wpQuiet_step (fun K hK => ?_); go_simp; first | (refine hK _ ?_; clear hK K) | (apply Exists.intro; refine ⟨fun x => ?_, hK _ ?_⟩; (go_at_call 28; refine quiet_after (HC.out _ ?_); (repeat' (first | (with_reducible exact Below.refl _ _) | (with_reducible assumption) | (with_reducible refine Below.alloc ?_ ?_ _) | (with_reducible refine Below.drew ?_) | (with_reducible refine below_drewN ?_ _) | (with_reducible refine Below.setCell ?_ ?_ _) | (with_reducible refine below_after ?_ ?_ _) | (with_reducible refine below_set ?_) | (with_reducible refine After.size_le _ ?_) | (with_reducible refine size_alloc_le ?_) | (with_reducible refine size_set_le ?_) | (with_reducible refine size_drewN_le ?_) | go_size))); clear hK K)))); refine wpQuiet_nil ?_
        intro y
        go_wp2
        go_roundw
        case rel => exact ⟨k + 1, by omega, by go_num, by rw [HS.out, if_neg (by omega)], ⟨_, x.out.trans (y.out.mono x.out.size)⟩, rfl⟩
        case measure => simp [intOf]; omega
    · obtain rfl : k = ts.length := by omega
      go_wp2
      go_ret
      exact ⟨rfl, by (repeat' (first | (with_reducible exact Below.refl _ _) | (with_reducible assumption) | (with_reducible refine Below.alloc ?_ ?_ _) | (with_reducible refine Below.drew ?_) | (with_reducible refine below_drewN ?_ _) | (with_reducible refine Below.setCell ?_ ?_ _) | (with_reducible refine below_after ?_ ?_ _) | (with_reducible refine below_set ?_) | (with_reducible refine After.size_le _ ?_) | (with_reducible refine size_alloc_le ?_) | (with_reducible refine size_set_le ?_) | (with_reducible refine size_drewN_le ?_) | go_size))⟩
end Go.Proofs.YtldopcneellfbaaGreatDoor.Aw
