/- The program's readMark: three words. -/
import Derived.Test.YtldopcneellfbaaGreatDoorReadm
namespace Go.Proofs.YtldopcneellfbaaGreatDoor
open Go.RowKit
attribute [local go_sem] After.cell After.frozen After.lt After.le After.ne After.ne' After.lt_add tx_size tx_toList

set_option maxRecDepth 100000 in
set_option maxHeartbeats 2000000 in
theorem readMark_three (s : List UInt8) (hs : s.length ≤ 65536) (w : World) (hS : Std w) (h3 : (wordsL 32 s).length = 3) (hle : ∀ x ∈ wordsL 32 s, x.length ≤ 65536) :
    Calls Tryz.prog 12 #[.string (tx s)] w fun e w' => RAns s e ∧ Below w.heap.size w w' := by
  have HS : Hid (∀ W, Below w.heap.size w W → Calls Tryz.prog 33 #[.string (tx s), .string (tx [32])] W _) := Lib.hid fun W hW => split_any hs (hS.on hW)
  have HAt : Hid (∀ t, t ∈ wordsL 32 s → ∀ W, Below w.heap.size w W → Calls Tryz.prog 34 #[.string (tx t)] W _) := Lib.hid fun t ht W hW => atoi_any (hle t ht) (hS.on hW)
  have HIt : Hid (∀ n, I64 n → ∀ W, Below w.heap.size w W → Calls Tryz.prog 19 #[.int .i64 n] W _) := Lib.hid fun n hn W hW => itoa_any hn (hS.on hW)
  have HNo : Hid (∀ k t, (wordsL 32 s)[k]? = some t → (∀ n, I64 n → Lib.itoa n ≠ t) → ∀ e, e = .returned (.tuple #[.agg #[.int .i64 0, .int .i64 0, .int .i64 0], .bool false]) → RAns s e) := Lib.hid fun k t hk ht e he => ⟨0, 0, 0, false, he, by unfold I64; omega, by unfold I64; omega, by unfold I64; omega, (fun h => by cases h), fun _ a b c ia ib ic e => by
    rw [e] at hk
    unfold threeW at hk
    have hk3 := (List.getElem?_eq_some_iff.1 hk).1
    simp only [List.length_cons, List.length_nil] at hk3
    rcases (show k = 0 ∨ k = 1 ∨ k = 2 by omega) with rfl | rfl | rfl
    · exact ht a ia (by simpa using hk)
    · exact ht b ib (by simpa using hk)
    · exact ht c ic (by simpa using hk)⟩
  have HYes : Hid (∀ a b c, I64 a → I64 b → I64 c → (wordsL 32 s)[0]? = some (Lib.itoa a) → (wordsL 32 s)[1]? = some (Lib.itoa b) → (wordsL 32 s)[2]? = some (Lib.itoa c) → ∀ e, e = .returned (.tuple #[.agg #[.int .i64 a, .int .i64 b, .int .i64 c], .bool true]) → RAns s e) := Lib.hid fun a b c ia ib ic h0 h1 h2 e he => ⟨a, b, c, true, he, ia, ib, ic, (fun _ => by
    generalize wordsL 32 s = ws at *
    match ws, h3 with
    | [x, y, z], _ =>
      simp at h0 h1 h2
      rw [h0, h1, h2]
      rfl), fun h => by cases h⟩
  clear hS hle
  generalize wordsL 32 s = ws at *
  have e0 : (⟨#[32]⟩ : ByteArray) = tx [32] := rfl
  go_enter Tryz.func12, Tryz.ntmps12
  go_wp2_with fail
  refine (HS.out _ (by (repeat' (first | (with_reducible exact Below.refl _ _) | (with_reducible assumption) | (with_reducible refine Below.alloc ?_ ?_ _) | (with_reducible refine Below.drew ?_) | (with_reducible refine below_drewN ?_ _) | (with_reducible refine Below.setCell ?_ ?_ _) | (with_reducible refine below_after ?_ ?_ _) | (with_reducible refine below_set ?_) | (with_reducible refine After.size_le _ ?_) | (with_reducible refine size_alloc_le ?_) | (with_reducible refine size_set_le ?_) | (with_reducible refine size_drewN_le ?_) | go_size)))).mono ?_
  rintro e w1 ⟨⟨v1, rfl, a, cap, rfl, hcell⟩, hb1⟩
  obtain ⟨g, rfl, hg, hcell⟩ := hcell (by omega)
  have HC := Lib.hid hcell
  have hbw : Below w.heap.size w w1 := Below.trans (b := w.alloc (.cells #[.int .i64 0, .int .i64 0, .int .i64 0] 40)) (by (repeat' (first | (with_reducible exact Below.refl _ _) | (with_reducible assumption) | (with_reducible refine Below.alloc ?_ ?_ _) | (with_reducible refine Below.drew ?_) | (with_reducible refine below_drewN ?_ _) | (with_reducible refine Below.setCell ?_ ?_ _) | (with_reducible refine below_after ?_ ?_ _) | (with_reducible refine below_set ?_) | (with_reducible refine After.size_le _ ?_) | (with_reducible refine size_alloc_le ?_) | (with_reducible refine size_set_le ?_) | (with_reducible refine size_drewN_le ?_) | go_size))) (hb1.mono (by simp))
  have m0 : w1.cell? ⟨w.heap.size, 0, none⟩ = some (.int .i64 0) := (hb1.cell (p := ⟨w.heap.size, 0, none⟩) (by simp)).trans (by simp [go_sem])
  have m1 : w1.cell? ⟨w.heap.size, 1, none⟩ = some (.int .i64 0) := (hb1.cell (p := ⟨w.heap.size, 1, none⟩) (by simp)).trans (by simp [go_sem])
  have m2 : w1.cell? ⟨w.heap.size, 2, none⟩ = some (.int .i64 0) := (hb1.cell (p := ⟨w.heap.size, 2, none⟩) (by simp)).trans (by simp [go_sem])
  have mf : ∀ o, w1.frozen? ⟨w.heap.size, o, none⟩ = false := fun o => (hb1.frozen (p := ⟨w.heap.size, o, none⟩) (by simp)).trans (by simp [go_sem])
  have hwl : w.heap.size < w1.heap.size := by have := hb1.size; simp at this; omega
  clear hcell hb1 HS
  have h3i : ((ws.length : Nat) : Int) = 3 := by omega
  rw [h3]
  go_wp2
  go_loopw [17] (fun i wr => ∃ (k : Nat) (f : Nat → Int) (y : After w1), k ≤ 3 ∧ i = .int .i64 k ∧ wr = y.w ∧ w1.heap.size < y.w.heap.size ∧ (∀ j, j < 3 → y.w.cell? ⟨w1.heap.size, j, none⟩ = some (.int .i64 (f j))) ∧ (∀ o, y.w.frozen? ⟨w1.heap.size, o, none⟩ = false) ∧ ∀ j, j < k → I64 (f j) ∧ ws[j]? = some (Lib.itoa (f j))) (fun i _ => 3 - (intOf i).toNat)
  case atStart => exact ⟨0, fun _ => 0, ⟨w1.alloc (.cells #[.int .i64 0, .int .i64 0, .int .i64 0] 66), (Below.refl _ _).alloc (Nat.le_refl _) _⟩, by omega, rfl, rfl, by simp, fun j hj => by
    rcases (show j = 0 ∨ j = 1 ∨ j = 2 by omega) with rfl | rfl | rfl <;> simp [go_sem], fun o => by simp [go_sem], fun j hj => absurd hj (by omega)⟩
  case round =>
    obtain ⟨k, f, y, hk, rfl, rfl, hy1, hcl, hfr, hgood⟩ := hrel
    have hby : Below w.heap.size w y.w := hbw.trans (y.out.mono hbw.size)
    have HG := Lib.hid hgood
    clear hgood
    by_cases hlt : k < 3
    · obtain ⟨t, ht⟩ : ∃ t, ws[k]? = some t := ⟨_, List.getElem?_eq_getElem (by omega)⟩
      have hc : y.w.cell? ⟨g, k, none⟩ = some (.string (tx t)) := (y.out.cell (p := ⟨g, k, none⟩) hg).trans (HC.out k t ht)
      have HA := Lib.hid (HAt.out t (List.mem_of_getElem? ht) y.w hby)
      have HT := Lib.hid ht
      have hki : (k : Int) < 3 := by omega
      clear ht hby
      go_wp2_with fail
      refine HA.out.mono ?_
      rintro e2 w2 ⟨⟨N, err, rfl, hN, herr, hit⟩, hb2⟩
      have hy2 : w1.heap.size < w2.heap.size := by have := hb2.size; omega
      have c2 : ∀ j, j < 3 → w2.cell? ⟨w1.heap.size, j, none⟩ = some (.int .i64 (f j)) := fun j hj => (hb2.cell (p := ⟨w1.heap.size, j, none⟩) hy1).trans (hcl j hj)
      have f2 : ∀ o, w2.frozen? ⟨w1.heap.size, o, none⟩ = false := fun o => (hb2.frozen (p := ⟨w1.heap.size, o, none⟩) hy1).trans (hfr o)
      obtain ⟨y2, rfl⟩ := after_of' (y.out.trans (hb2.mono y.out.size))
      obtain ⟨y3, hy3⟩ : ∃ y3 : After w1, y2.w.setCell ⟨w1.heap.size, k, none⟩ (.int .i64 N) = y3.w := ⟨⟨_, y2.out.setCell (Nat.le_refl _) _⟩, rfl⟩
      have c3 : ∀ j, j < 3 → y3.w.cell? ⟨w1.heap.size, j, none⟩ = some (.int .i64 (if j = k then N else f j)) := fun j hj => by
        rw [← hy3]
        by_cases e : j = k
        · subst e
          rw [if_pos rfl]
          exact World.cell?_setCell_same _ _ _ (c2 j hj)
        · rw [if_neg e, World.cell?_setCell_other _ _ _ _ (by simp)]
          exact c2 j hj
      have f3 : ∀ o, y3.w.frozen? ⟨w1.heap.size, o, none⟩ = false := fun o => by rw [← hy3]; simp [f2 o]
      have s3 : w1.heap.size < y3.w.heap.size := by rw [← hy3]; simpa using hy2
      have ck := c2 k hlt
      have fk := f2 k
      have ck3 := c3 k hlt
      rw [if_pos rfl] at ck3
      have hb3 : Below w.heap.size w y3.w := hbw.trans (y3.out.mono hbw.size)
      have HC3 := Lib.hid c3
      have HF3 := Lib.hid f3
      have HIT := Lib.hid hit
      have HN := Lib.hid hN
      have HI := Lib.hid (HIt.out N hN y3.w hb3)
      clear hb2 hcl hfr c2 f2 c3 f3 hit HA hc
      rcases herr with rfl | ⟨te, pe, rfl⟩
      · go_wp2_with fail
        refine HI.out.mono ?_
        rintro e4 w4 ⟨rfl, hb4⟩
        have c4 : ∀ j, j < 3 → w4.cell? ⟨w1.heap.size, j, none⟩ = some (.int .i64 (if j = k then N else f j)) := fun j hj => (hb4.cell (p := ⟨w1.heap.size, j, none⟩) s3).trans (HC3.out j hj)
        have f4 : ∀ o, w4.frozen? ⟨w1.heap.size, o, none⟩ = false := fun o => (hb4.frozen (p := ⟨w1.heap.size, o, none⟩) s3).trans (HF3.out o)
        have s4 : w1.heap.size < w4.heap.size := by have := hb4.size; omega
        obtain ⟨y4, rfl⟩ := after_of' (y3.out.trans (hb4.mono y3.out.size))
        have HC4 := Lib.hid c4
        have HF4 := Lib.hid f4
        clear c4 f4 hb4
        by_cases he : Lib.itoa N = t
        · subst he
          go_wp2
          go_roundw
          case rel => exact ⟨k + 1, _, y4, by omega, by go_num, rfl, s4, HC4.out, HF4.out, fun j hj => by
            by_cases e : j = k
            · subst e
              rw [if_pos rfl]
              exact ⟨HN.out, HT.out⟩
            · rw [if_neg e]
              exact HG.out j (by omega)⟩
          case measure => simp [intOf]; omega
        · have hne : (Lib.itoa N == t) = false := beq_eq_false_iff_ne.2 he
          have HR := Lib.hid (HNo.out k t HT.out (fun n hn e => he (by rw [(HIT.out n hn e).1]; exact e)))
          have q0 : y4.w.cell? ⟨w.heap.size, 0, none⟩ = some (.int .i64 0) := (y4.out.cell (p := ⟨w.heap.size, 0, none⟩) hwl).trans m0
          have q1 : y4.w.cell? ⟨w.heap.size, 1, none⟩ = some (.int .i64 0) := (y4.out.cell (p := ⟨w.heap.size, 1, none⟩) hwl).trans m1
          have q2 : y4.w.cell? ⟨w.heap.size, 2, none⟩ = some (.int .i64 0) := (y4.out.cell (p := ⟨w.heap.size, 2, none⟩) hwl).trans m2
          have qf : ∀ o, y4.w.frozen? ⟨w.heap.size, o, none⟩ = false := fun o => (y4.out.frozen (p := ⟨w.heap.size, o, none⟩) hwl).trans (mf o)
          obtain ⟨w0, w1', w2'⟩ := y4.set3 (.int .i64 0) (.int .i64 0) (.int .i64 0) q0 q1 q2
          simp only [← After.set_eq] at w0 w1' w2'
          go_wp2
          refine bodyPost_ret (v := .tuple #[.agg #[(.int .i64 0), (.int .i64 0), (.int .i64 0)], .bool false]) (by simp [results, Tryz.results12, go_sem, w0, w1', w2']) rfl ⟨HR.out _ rfl, ?_⟩
          exact (((hbw.trans (y4.out.mono hbw.size)).setCell (Nat.le_refl _) _).setCell (Nat.le_refl _) _).setCell (Nat.le_refl _) _
      · have HR := Lib.hid (HNo.out k t HT.out (fun n hn e => by cases (HIT.out n hn e).2))
        have q0 : y3.w.cell? ⟨w.heap.size, 0, none⟩ = some (.int .i64 0) := (y3.out.cell (p := ⟨w.heap.size, 0, none⟩) hwl).trans m0
        have q1 : y3.w.cell? ⟨w.heap.size, 1, none⟩ = some (.int .i64 0) := (y3.out.cell (p := ⟨w.heap.size, 1, none⟩) hwl).trans m1
        have q2 : y3.w.cell? ⟨w.heap.size, 2, none⟩ = some (.int .i64 0) := (y3.out.cell (p := ⟨w.heap.size, 2, none⟩) hwl).trans m2
        have qf : ∀ o, y3.w.frozen? ⟨w.heap.size, o, none⟩ = false := fun o => (y3.out.frozen (p := ⟨w.heap.size, o, none⟩) hwl).trans (mf o)
        obtain ⟨w0, w1', w2'⟩ := y3.set3 (.int .i64 0) (.int .i64 0) (.int .i64 0) q0 q1 q2
        simp only [← After.set_eq] at w0 w1' w2'
        go_wp2
        refine bodyPost_ret (v := .tuple #[.agg #[(.int .i64 0), (.int .i64 0), (.int .i64 0)], .bool false]) (by simp [results, Tryz.results12, go_sem, w0, w1', w2']) rfl ⟨HR.out _ rfl, ?_⟩
        exact (((hbw.trans (y3.out.mono hbw.size)).setCell (Nat.le_refl _) _).setCell (Nat.le_refl _) _).setCell (Nat.le_refl _) _
    · obtain rfl : k = 3 := by omega
      have k0 := hcl 0 (by omega)
      have k1 := hcl 1 (by omega)
      have k2 := hcl 2 (by omega)
      have HR := Lib.hid (HYes.out (f 0) (f 1) (f 2) (HG.out 0 (by omega)).1 (HG.out 1 (by omega)).1 (HG.out 2 (by omega)).1 (HG.out 0 (by omega)).2 (HG.out 1 (by omega)).2 (HG.out 2 (by omega)).2)
      have q0 : y.w.cell? ⟨w.heap.size, 0, none⟩ = some (.int .i64 0) := (y.out.cell (p := ⟨w.heap.size, 0, none⟩) hwl).trans m0
      have q1 : y.w.cell? ⟨w.heap.size, 1, none⟩ = some (.int .i64 0) := (y.out.cell (p := ⟨w.heap.size, 1, none⟩) hwl).trans m1
      have q2 : y.w.cell? ⟨w.heap.size, 2, none⟩ = some (.int .i64 0) := (y.out.cell (p := ⟨w.heap.size, 2, none⟩) hwl).trans m2
      have qf : ∀ o, y.w.frozen? ⟨w.heap.size, o, none⟩ = false := fun o => (y.out.frozen (p := ⟨w.heap.size, o, none⟩) hwl).trans (mf o)
      obtain ⟨w0, w1', w2'⟩ := y.set3 (.int .i64 (f 0)) (.int .i64 (f 1)) (.int .i64 (f 2)) q0 q1 q2
      simp only [← After.set_eq] at w0 w1' w2'
      go_wp2
      refine bodyPost_ret (v := .tuple #[.agg #[(.int .i64 (f 0)), (.int .i64 (f 1)), (.int .i64 (f 2))], .bool true]) (by simp [results, Tryz.results12, go_sem, w0, w1', w2']) rfl ⟨HR.out _ rfl, ?_⟩
      exact (((hbw.trans (y.out.mono hbw.size)).setCell (Nat.le_refl _) _).setCell (Nat.le_refl _) _).setCell (Nat.le_refl _) _
end Go.Proofs.YtldopcneellfbaaGreatDoor
