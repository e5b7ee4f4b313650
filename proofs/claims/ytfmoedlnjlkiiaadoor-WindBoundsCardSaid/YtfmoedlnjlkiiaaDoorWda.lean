/- SameSpans, and the chapter's examples. -/
import Derived.Test.YtfmoedlnjlkiiaaDoorWdf
import Derived.Test.YtfmoedlnjlkiiaaDoorWdp
namespace Go.Proofs.YtfmoedlnjlkiiaaDoor
open Go.RowKit
attribute [local go_sem] After.cell After.frozen After.lt After.le After.ne After.ne' After.set_eq After.size_set After.lt_add

/-- A slice of spans. -/
def SpIn (W : World) (v : Value) (L : List (Int × Int)) : Prop := ∃ a cap, v = .slice a L.length cap ∧ ∀ i, i < L.length → ∃ b off, a = some ⟨b, off, none⟩ ∧ b < W.heap.size ∧ W.cell? ⟨b, off + i * 2, none⟩ = some (.int .i64 (L.getD i (0, 0)).1) ∧ W.cell? ⟨b, off + i * 2 + 1, none⟩ = some (.int .i64 (L.getD i (0, 0)).2)
theorem SpIn.on {w W : World} {v : Value} {L : List (Int × Int)} (h : SpIn w v L) (hb : Below w.heap.size w W) : SpIn W v L := by
  obtain ⟨a, cap, e, h1⟩ := h
  refine ⟨a, cap, e, fun i hi => ?_⟩
  obtain ⟨b, off, e', h2, h3, h4⟩ := h1 i hi
  exact ⟨b, off, e', Nat.lt_of_lt_of_le h2 hb.size, (hb.cell (p := ⟨b, off + i * 2, none⟩) h2).trans h3, (hb.cell (p := ⟨b, off + i * 2 + 1, none⟩) h2).trans h4⟩
theorem SpRow.in {W : World} {B : Nat} {v : Value} {L : List (Int × Int)} (h : SpRow W B v L) : SpIn W v L := by
  obtain ⟨a, cap, rfl⟩ := ownsR_shape h
  refine ⟨a, cap, rfl, fun i hi => ?_⟩
  obtain ⟨g, c, e⟩ := Go.Joins.ownsRow_form h (by omega)
  cases e
  refine ⟨g, 0, rfl, (h.lt g rfl).2, ?_⟩
  have h' : W.ownsRow B 38 2 (.slice (some ⟨g, 0, none⟩) L.length cap) L.length (scv L) := h
  rw [Nat.zero_add, h'.cellAt _ (by omega), h'.cellAt _ (by omega)]
  exact scv_get hi
theorem neq_span (a b : Int) (w : World) : (binOp .neq 38 (.agg #[.int .i64 a, .int .i64 b]) (.agg #[.int .i64 a, .int .i64 b])).run Tryd.prog w = .ok (.bool false) w := by
  rw [run_neq_struct]
  go_simp
attribute [local go_sem 10000] neq_span
set_option maxRecDepth 100000 in
set_option maxHeartbeats 1000000 in
theorem sameSpans_any {v v' : Value} {L : List (Int × Int)} {w : World} (h : SpIn w v L) (h' : SpIn w v' L) (hl : L.length ≤ 100000) :
    Calls Tryd.prog 18 #[v, v'] w fun e w' => e = .returned (.bool true) ∧ Below w.heap.size w w' := by
  obtain ⟨a, c, rfl, h1⟩ := h
  obtain ⟨a', c', rfl, h1'⟩ := h'
  have H1 := Lib.hid h1
  have H2 := Lib.hid h1'
  have hlI : (L.length : Int) ≤ 100000 := by omega
  clear h1 h1'
  go_enter Tryd.func18, Tryd.ntmps18
  go_wp2
  go_loopw [5] (fun i wr => ∃ k : Nat, k ≤ L.length ∧ i = .int .i64 k ∧ ∃ x : After w, wr = x.w) (fun i _ => L.length - (intOf i).toNat)
  case atStart => exact ⟨0, by omega, rfl, ⟨w, Below.refl _ _⟩, rfl⟩
  case round =>
    obtain ⟨k, hk, rfl, x, rfl⟩ := hrel
    by_cases hlt : k < L.length
    · have hlti : (k : Int) < (L.length : Int) := by omega
      obtain ⟨b, off, rfl, hb, c1, c2⟩ := H1.out k hlt
      obtain ⟨b', off', rfl, hb', d1, d2⟩ := H2.out k hlt
      generalize L.getD k (0, 0) = p at *
      obtain ⟨p1, p2⟩ := p
      dsimp only at *
      go_wp2
      refine wp_region_after (by kernel_rfl) (by kernel_rfl) ?_; (repeat (first | go_big_quiet_step ((fail)) | (refine wpQuiet_step (fun K hK => ?_); go_simp; first | (refine hK _ ?_; clear hK K) | (apply Exists.intro; refine ⟨fun x => ?_, hK _ ?_⟩; (fail); clear hK K)))); refine wpQuiet_nil ?_
      intro y
      go_wp2
      go_roundw
      case rel => exact ⟨k + 1, by omega, by go_num, ⟨_, x.out.trans (y.out.mono x.out.size)⟩, rfl⟩
      case measure => simp [intOf]; omega
    · obtain rfl : k = L.length := by omega
      go_wp2
      go_ret
      exact ⟨rfl, by (repeat' (first | (with_reducible exact Below.refl _ _) | (with_reducible assumption) | (with_reducible refine Below.alloc ?_ ?_ _) | (with_reducible refine Below.drew ?_) | (with_reducible refine below_drewN ?_ _) | (with_reducible refine Below.setCell ?_ ?_ _) | (with_reducible refine below_after ?_ ?_ _) | (with_reducible refine below_set ?_) | (with_reducible refine After.size_le _ ?_) | (with_reducible refine size_alloc_le ?_) | (with_reducible refine size_set_le ?_) | (with_reducible refine size_drewN_le ?_) | go_size))⟩

/-! ### The examples -/
def aw1 (k : Nat) : Int := [30, 55, 45, 35, 35, 30].getD k 0
def aw2 (k : Nat) : Int := [30, 55, -1, 35, 35, 30].getD k 0
def aw3 (k : Nat) : Int := [30, -1, 55].getD k 0
theorem aw1_st : stL 50 40 2 6 aw1 = [(1, 5)] := by decide +kernel
theorem aw2_st : stL 50 40 2 6 aw2 = [(1, 5)] := by decide +kernel
theorem aw1_e : asE 50 40 2 6 aw1 = 0 := by decide +kernel
theorem aw2_e : asE 50 40 2 6 aw2 = 0 := by decide +kernel
theorem aw3_f : formG 3 aw3 = [51, 48, 32, 45, 32, 53, 53] := by decide +kernel
theorem iat_lit {W : World} {b n : Nat} {f : Nat → Int} (hb : b < W.heap.size) (h : ∀ k, k < n → W.cell? ⟨b, k, none⟩ = some (.int .i64 (f k))) : IAt W (some ⟨b, 0, none⟩) n f := fun k hk => ⟨b, 0, rfl, hb, by rw [Nat.zero_add]; exact h k hk⟩
set_option maxRecDepth 100000 in
set_option maxHeartbeats 2000000 in
theorem awake_any (w : World) (hS : Stw w) :
    Calls Tryd.prog 10 #[] w fun e w' => e = .returned (.bool true) ∧ Below w.heap.size w w' := by
  have HS := Lib.hid hS
  have H1 : Hid (∀ W b, IAt W (some ⟨b, 0, none⟩) 6 aw1 → Calls Tryd.prog 12 #[.agg #[.int .i64 50, .int .i64 40, .int .i64 2], .slice (some ⟨b, 0, none⟩) 6 6] W fun e w' => (∃ v, e = .returned (.tuple #[v, .int .i64 0]) ∧ Hid (SpIn w' v [(1, 5)])) ∧ Below W.heap.size W w') := Lib.hid fun W b h => by
    have := stops_any 50 40 2 (some ⟨b, 0, none⟩) 6 6 aw1 W h
    rw [aw1_e, aw1_st] at this
    exact this.mono fun e w' ⟨⟨v, h1, h2⟩, h3⟩ => ⟨⟨v, h1, Lib.hid h2.in⟩, h3⟩
  have H2 : Hid (∀ W b, IAt W (some ⟨b, 0, none⟩) 6 aw2 → Calls Tryd.prog 12 #[.agg #[.int .i64 50, .int .i64 40, .int .i64 2], .slice (some ⟨b, 0, none⟩) 6 6] W fun e w' => (∃ v, e = .returned (.tuple #[v, .int .i64 0]) ∧ Hid (SpIn w' v [(1, 5)])) ∧ Below W.heap.size W w') := Lib.hid fun W b h => by
    have := stops_any 50 40 2 (some ⟨b, 0, none⟩) 6 6 aw2 W h
    rw [aw2_e, aw2_st] at this
    exact this.mono fun e w' ⟨⟨v, h1, h2⟩, h3⟩ => ⟨⟨v, h1, Lib.hid h2.in⟩, h3⟩
  have H3 : Hid (∀ W b, IAt W (some ⟨b, 0, none⟩) 3 aw3 → Stw W → Calls Tryd.prog 49 #[.slice (some ⟨b, 0, none⟩) 3 3] W fun e w' => e = .returned (.string ⟨#[51, 48, 32, 45, 32, 53, 53]⟩) ∧ Below W.heap.size W w') := Lib.hid fun W b h hW => by
    have := formatG_any (some ⟨b, 0, none⟩) 3 3 aw3 W h hW
    rw [aw3_f] at this
    exact this
  clear hS
  go_enter Tryd.func10, Tryd.ntmps10
  go_wp2_with fail
  refine (H1.out _ _ (iat_lit (by simp) (by
    intro k hk
    rcases (show k = 0 ∨ k = 1 ∨ k = 2 ∨ k = 3 ∨ k = 4 ∨ k = 5 by omega) with rfl | rfl | rfl | rfl | rfl | rfl
    all_goals simp [go_sem, aw1]))).mono ?_
  rintro e w1 ⟨⟨v, rfl, hv⟩, hb1⟩
  have r0 := (hb1.cell (p := ⟨w.heap.size, 0, none⟩) (by simp; omega)).trans (b := _) (c := some (.int .i64 50)) (by simp [go_sem])
  have r1 := (hb1.cell (p := ⟨w.heap.size, 1, none⟩) (by simp; omega)).trans (b := _) (c := some (.int .i64 40)) (by simp [go_sem])
  have r2 := (hb1.cell (p := ⟨w.heap.size, 2, none⟩) (by simp; omega)).trans (b := _) (c := some (.int .i64 2)) (by simp [go_sem])
  have hB1 : Below w.heap.size w w1 := Below.trans (by (repeat' (first | (with_reducible exact Below.refl _ _) | (with_reducible assumption) | (with_reducible refine Below.alloc ?_ ?_ _) | (with_reducible refine Below.drew ?_) | (with_reducible refine below_drewN ?_ _) | (with_reducible refine Below.setCell ?_ ?_ _) | (with_reducible refine below_after ?_ ?_ _) | (with_reducible refine below_set ?_) | (with_reducible refine After.size_le _ ?_) | (with_reducible refine size_alloc_le ?_) | (with_reducible refine size_set_le ?_) | (with_reducible refine size_drewN_le ?_) | go_size))) (hb1.mono (by simp; omega))
  have hs1 := hb1.size
  simp only [World.size_alloc] at hs1
  clear hb1 H1
  go_wp2_with fail
  refine (H2.out _ _ (iat_lit (by simp) (by
    intro k hk
    rcases (show k = 0 ∨ k = 1 ∨ k = 2 ∨ k = 3 ∨ k = 4 ∨ k = 5 by omega) with rfl | rfl | rfl | rfl | rfl | rfl
    all_goals simp [go_sem, aw2]))).mono ?_
  rintro e w2 ⟨⟨v', rfl, hv'⟩, hb2⟩
  have b12 : Below w1.heap.size w1 w2 := Below.trans ((Below.refl _ w1).alloc (Nat.le_refl _) _) (hb2.mono (by simp))
  have hv2 := Lib.hid (hv.out.on b12)
  have hB2 := hB1.trans (b12.mono hB1.size)
  have HB2 := Lib.hid hB2
  have hs2 := hB2.size
  clear hb2 b12 hv hB1 hB2 r0 r1 r2 H2
  have HL1 : Hid (∀ b W, W.cell? ⟨b, 0, none⟩ = some (.int .i64 1) → W.cell? ⟨b, 1, none⟩ = some (.int .i64 5) → SpIn W (.slice (some ⟨b, 0, none⟩) 1 1) [(1, 5)]) := Lib.hid fun b W h0 h1 => ⟨_, _, rfl, fun i hi => by
    obtain rfl : i = 0 := by simpa using hi
    exact ⟨b, 0, rfl, World.block_lt_of_cell? W _ h0, by simpa using h0, by simpa using h1⟩⟩
  have HQ1 := Lib.hid (sameSpans_any (w := w2.alloc (.cells #[.int .i64 1, .int .i64 5] 38)) (hv2.out.on ((Below.refl _ _).alloc (Nat.le_refl _) _)) (HL1.out w2.heap.size _ (by simp [go_sem]) (by simp [go_sem])) (by simp))
  go_wp2_with fail
  refine HQ1.out.mono ?_
  rintro e w3 ⟨rfl, hb3⟩
  have b23 : Below w2.heap.size w2 w3 := Below.trans ((Below.refl _ w2).alloc (Nat.le_refl _) _) (hb3.mono (by simp))
  have HQ2 := Lib.hid (sameSpans_any (hv2.out.on b23) (hv'.out.on b23) (by simp))
  have HB3 := Lib.hid (HB2.out.trans (b23.mono HB2.out.size))
  clear hb3 b23 HQ1 HL1 hv2 hv' HB2
  go_wp2_with fail
  refine HQ2.out.mono ?_
  rintro e w4 ⟨rfl, hb4⟩
  have HB4 := Lib.hid (HB3.out.trans (hb4.mono HB3.out.size))
  have HB5 := Lib.hid (HB4.out.alloc HB4.out.size (.cells #[.int .i64 30, .int .i64 (-1), .int .i64 55] 3))
  clear hb4 HQ2 HB3
  go_wp2_with fail
  refine (H3.out _ _ (iat_lit (by simp) (by
    intro k hk
    rcases (show k = 0 ∨ k = 1 ∨ k = 2 by omega) with rfl | rfl | rfl
    all_goals simp [go_sem, aw3])) (HS.out.on HB5.out)).mono ?_
  rintro e w5 ⟨rfl, hb5⟩
  have HB6 := Lib.hid (HB5.out.trans (hb5.mono (HB5.out.size)))
  clear hb5
  go_wp2
  go_ret
  exact ⟨rfl, HB6.out⟩
end Go.Proofs.YtfmoedlnjlkiiaaDoor
