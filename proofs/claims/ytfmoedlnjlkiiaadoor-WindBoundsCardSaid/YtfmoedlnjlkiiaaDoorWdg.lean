/- The program's Longest. -/
import Derived.Test.YtfmoedlnjlkiiaaDoorWdl
namespace Go.Proofs.YtfmoedlnjlkiiaaDoor
open Go.RowKit
attribute [local go_sem] After.cell After.frozen After.lt After.le After.ne After.ne' After.set_eq After.size_set After.lt_add

set_option maxRecDepth 100000 in
set_option maxHeartbeats 2000000 in
theorem longest_say (s g c : Int) (a : Option Addr) (n cap : Nat) (f : Nat → Int) (w : World) (hA : IAt w a n f) :
    Calls Tryd.prog 23 #[.agg #[.int .i64 s, .int .i64 g, .int .i64 c], .slice a n cap] w fun e w' => e = .returned (.tuple #[spV (loB s g c n f), .int .i64 (loE s g c n f)]) ∧ Below w.heap.size w w' := by
  have HV := Lib.hid (fun W (hW : Below w.heap.size w W) => valid_any s g c a n cap f W (hA.on hW))
  have HA := Lib.hid hA
  unfold waV at HV
  unfold loE loB spV
  cases hk : AskB s g c n f
  · rw [hk] at HV
    go_enter Tryd.func23, Tryd.ntmps23
    go_wp2_with fail
    refine calls_after (HV.out _ (by (repeat' (first | (with_reducible exact Below.refl _ _) | (with_reducible assumption) | (with_reducible refine Below.alloc ?_ ?_ _) | (with_reducible refine Below.drew ?_) | (with_reducible refine below_drewN ?_ _) | (with_reducible refine Below.setCell ?_ ?_ _) | (with_reducible refine below_after ?_ ?_ _) | (with_reducible refine below_set ?_) | (with_reducible refine After.size_le _ ?_) | (with_reducible refine size_alloc_le ?_) | (with_reducible refine size_set_le ?_) | (with_reducible refine size_drewN_le ?_) | go_size)))) ?_
    intro x1
    go_wp2
    go_returns
    exact ⟨rfl, by (repeat' (first | (with_reducible exact Below.refl _ _) | (with_reducible assumption) | (with_reducible refine Below.alloc ?_ ?_ _) | (with_reducible refine Below.drew ?_) | (with_reducible refine below_drewN ?_ _) | (with_reducible refine Below.setCell ?_ ?_ _) | (with_reducible refine below_after ?_ ?_ _) | (with_reducible refine below_set ?_) | (with_reducible refine After.size_le _ ?_) | (with_reducible refine size_alloc_le ?_) | (with_reducible refine size_set_le ?_) | (with_reducible refine size_drewN_le ?_) | go_size))⟩
  · obtain ⟨hc, hn, hf⟩ := ask_c hk
    rw [hk] at HV
    have hok := fl_ok (gW s g c f) hn
    have HW := Lib.hid (fun w => where_any s g c a n cap true w)
    unfold waV at HW
    have HS : Hid (∀ W B W5, W.heap.size = B → ((W.alloc (.cells #[.int .i64 s, .int .i64 g, .int .i64 c, .slice a n cap] 67)).alloc (.cells #[.bool true] 4)) = W5 → IAt W a n f → Calls Tryd.prog 51 #[.func (.func 76) #[] #[.pointer (some ⟨B, 0, none⟩), .pointer (some ⟨B + 1, 0, none⟩)]] W5 fun e w' => (∃ v, e = .returned v ∧ SpRow w' W5.heap.size v (loL s g c n f)) ∧ Below W5.heap.size W5 w') := Lib.hid (fun W B W5 hB h5 hW => by
      subst hB h5
      have h := spans_any _ _ _ _ _ (where_it s g c a n cap f true W hc hn hW) (fun x hx => by have := (fl_lt hx).1; omega) (Nat.le_trans (fl_len _ _) hn)
      have e : spS (fl (pW s g c f true) n) = loL s g c n f := by unfold loL; rw [fl_eq (q := gW s g c f) (fun k _ => pW_true s g c f k)]
      rw [e] at h
      exact h)
    change SpOk (loL s g c n f) at hok
    have hlen : (loL s g c n f).length ≤ 2000 := Nat.le_trans (spS_len _) (Nat.le_trans (fl_len _ _) hn)
    have hmI : ((loL s g c n f).length : Int) ≤ 2000 := by omega
    simp only [if_true]
    generalize loL s g c n f = L at *
    have hz : Hid ((bst (0, 0) L).2 = 0 ↔ L = []) := Lib.hid (by
      cases L with
      | nil => exact ⟨fun _ => rfl, fun _ => rfl⟩
      | cons p L =>
        have hp := hok p List.mem_cons_self
        have := bst_pos (b := p) (l := L) (by omega) (fun y hy => hok y (List.mem_cons_of_mem _ hy))
        rw [bst_cons hok]
        exact ⟨fun h => by omega, fun h => by cases h⟩)
    obtain ⟨E, hE⟩ : ∃ E : Int, (if L = [] then (8 : Int) else 0) = E := ⟨_, rfl⟩
    rw [hE]
    have HE := Lib.hid hE
    clear hE
    go_enter Tryd.func23, Tryd.ntmps23
    go_wp2_with fail
    refine calls_after (HV.out _ (by (repeat' (first | (with_reducible exact Below.refl _ _) | (with_reducible assumption) | (with_reducible refine Below.alloc ?_ ?_ _) | (with_reducible refine Below.drew ?_) | (with_reducible refine below_drewN ?_ _) | (with_reducible refine Below.setCell ?_ ?_ _) | (with_reducible refine below_after ?_ ?_ _) | (with_reducible refine below_set ?_) | (with_reducible refine After.size_le _ ?_) | (with_reducible refine size_alloc_le ?_) | (with_reducible refine size_set_le ?_) | (with_reducible refine size_drewN_le ?_) | go_size)))) ?_
    intro x1
    have hB1 : Below w.heap.size w x1.w := by (repeat' (first | (with_reducible exact Below.refl _ _) | (with_reducible assumption) | (with_reducible refine Below.alloc ?_ ?_ _) | (with_reducible refine Below.drew ?_) | (with_reducible refine below_drewN ?_ _) | (with_reducible refine Below.setCell ?_ ?_ _) | (with_reducible refine below_after ?_ ?_ _) | (with_reducible refine below_set ?_) | (with_reducible refine After.size_le _ ?_) | (with_reducible refine size_alloc_le ?_) | (with_reducible refine size_set_le ?_) | (with_reducible refine size_drewN_le ?_) | go_size))
    have r0 : x1.w.cell? ⟨w.heap.size + 1, 0, none⟩ = some (.int .i64 0) := by
      rw [x1.out.cell (p := ⟨w.heap.size + 1, 0, none⟩) (by simp)]
      simp [go_sem]
    have r1 : x1.w.cell? ⟨w.heap.size + 1, 1, none⟩ = some (.int .i64 0) := by
      rw [x1.out.cell (p := ⟨w.heap.size + 1, 1, none⟩) (by simp)]
      simp [go_sem]
    have rf : ∀ o, x1.w.frozen? ⟨w.heap.size + 1, o, none⟩ = false := fun o => by
      rw [x1.out.frozen (p := ⟨w.heap.size + 1, o, none⟩) (by simp)]
      simp [go_sem]
    have hx1s := x1.out.size
    simp only [World.size_alloc] at hx1s
    have HB4 := Lib.hid (hB1.alloc hB1.size (.cells #[.int .i64 0, .int .i64 0] 38))
    have HA4 := Lib.hid (HA.out.on HB4.out)
    clear hB1
    go_wp2_with fail
    refine (HW.out _).mono ?_
    rintro e w5 ⟨rfl, hw5⟩
    have HS5 := Lib.hid (HS.out _ (x1.w.heap.size + 1) w5 (by simp) hw5 HA4.out)
    have b45 : Below (x1.w.heap.size + 1) (x1.w.alloc (.cells #[.int .i64 0, .int .i64 0] 38)) w5 := by rw [← hw5]; exact ((Below.refl _ _).alloc (by simp) _).alloc (by simp) _
    have hs5 : w5.heap.size = x1.w.heap.size + 3 := by rw [← hw5]; simp
    clear hw5 HS HA4
    go_wp2_with fail
    refine HS5.out.mono ?_
    rintro e w6 ⟨⟨v, rfl, hv⟩, hb6⟩
    have b46 := b45.trans (hb6.mono (by omega))
    have HB6 := Lib.hid (HB4.out.trans (b46.mono (by omega)))
    have hs6 := hb6.size
    have hgs : ∀ g', v.ownBlock = some g' → w5.heap.size ≤ g' := fun g' e => (hv.lt g' e).1
    have row : ∀ g' cp, v = .slice (some ⟨g', 0, none⟩) L.length cp → ∀ i, i < L.length → w6.cell? ⟨g', i * 2, none⟩ = some (.int .i64 (L.getD i (0, 0)).1) ∧ w6.cell? ⟨g', i * 2 + 1, none⟩ = some (.int .i64 (L.getD i (0, 0)).2) := fun g' cp e i hi => by
      have hv' := hv
      unfold SpRow at hv'
      rw [e] at hv'
      rw [hv'.cellAt _ (by omega), hv'.cellAt _ (by omega)]
      exact scv_get hi
    have r0 := (b46.cell (p := ⟨w.heap.size + 1, 0, none⟩) (by simp; omega)).trans (keep_alloc r0)
    have r1 := (b46.cell (p := ⟨w.heap.size + 1, 1, none⟩) (by simp; omega)).trans (keep_alloc r1)
    have rf : ∀ o, w6.frozen? ⟨w.heap.size + 1, o, none⟩ = false := fun o => (b46.frozen (p := ⟨w.heap.size + 1, o, none⟩) (by simp; omega)).trans ((((Below.refl _ x1.w).alloc (Nat.le_refl _) _).frozen (p := ⟨w.heap.size + 1, o, none⟩) (by simp; omega)).trans (rf o))
    have l0 : w6.cell? ⟨x1.w.heap.size, 0, none⟩ = some (.int .i64 0) := (b46.cell (p := ⟨x1.w.heap.size, 0, none⟩) (by simp)).trans (by simp [go_sem])
    have l1 : w6.cell? ⟨x1.w.heap.size, 1, none⟩ = some (.int .i64 0) := (b46.cell (p := ⟨x1.w.heap.size, 1, none⟩) (by simp)).trans (by simp [go_sem])
    have lf : ∀ o, w6.frozen? ⟨x1.w.heap.size, o, none⟩ = false := fun o => (b46.frozen (p := ⟨x1.w.heap.size, o, none⟩) (by simp)).trans (by simp [go_sem])
    have hne1 : x1.w.heap.size ≠ w.heap.size + 1 := by omega
    have hwB : w.heap.size ≤ x1.w.heap.size := by omega
    clear hb6 b45 b46 HB4 HS5 HW HV
    obtain ⟨a2, cp, rfl⟩ := ownsR_shape hv
    obtain ⟨g', hne2, ha2, hrow⟩ : ∃ g', x1.w.heap.size ≠ g' ∧ (0 < L.length → a2 = some ⟨g', 0, none⟩) ∧ ∀ i, i < L.length → w6.cell? ⟨g', i * 2, none⟩ = some (.int .i64 (L.getD i (0, 0)).1) ∧ w6.cell? ⟨g', i * 2 + 1, none⟩ = some (.int .i64 (L.getD i (0, 0)).2) := by
      by_cases h0 : L.length = 0
      · exact ⟨x1.w.heap.size + 1, by omega, fun h => by omega, fun i hi => by omega⟩
      · obtain ⟨g', c', e⟩ := Go.Joins.ownsRow_form hv (by omega)
        have := hgs g' (by rw [e]; rfl)
        have e2 : a2 = some ⟨g', 0, none⟩ := by cases e; rfl
        exact ⟨g', by omega, fun _ => e2, row g' cp (by rw [e2])⟩
    have hL0 : Hid (LgAt w6 x1.w.heap.size (w.heap.size + 1) (0, 0) g' L) := Lib.hid ⟨l0, l1, lf, r0, r1, rf, hrow⟩
    have HA2 := Lib.hid ha2
    clear hv hgs row r0 r1 rf l0 l1 lf hrow ha2
    generalize x1.w.heap.size = B at *
    go_wp2
    go_loopw [21] (fun i wr => ∃ k : Nat, k ≤ L.length ∧ i = .int .i64 k ∧ Hid (LgAt wr B (w.heap.size + 1) (bst (0, 0) (L.take k)) g' L) ∧ Hid (Below w.heap.size w wr)) (fun i _ => L.length - (intOf i).toNat)
    case atStart => exact ⟨0, by omega, rfl, hL0, HB6⟩
    case round =>
      obtain ⟨k, hk, rfl, HL, HB⟩ := hrel
      by_cases hlt : k < L.length
      · obtain rfl := HA2.out (by omega)
        obtain ⟨l0, l1⟩ := HL.out.row k hlt
        have hlti : (k : Int) < (L.length : Int) := by omega
        have b0 := HL.out.b0
        have b1 := HL.out.b1
        have bf0 := HL.out.bf 0
        have bf1 := HL.out.bf 1
        have HT := Lib.hid (bst_take (0, 0) hlt)
        have hbo := bst_ok (b := (0, 0)) (by dsimp only; omega) (spOk_take hok k)
        have hxo := spOk_get hok hlt
        generalize bst (0, 0) (L.take k) = u at *
        generalize L.getD k (0, 0) = x at *
        obtain ⟨u1, u2⟩ := u
        obtain ⟨x1', x2'⟩ := x
        dsimp only at b0 b1 l0 l1 hbo hxo
        have lB := World.block_lt_of_cell? _ _ b0
        have lg := World.block_lt_of_cell? _ _ l0
        dsimp only at lB lg
        have HL2 := Lib.hid (HL.out.on ((Below.refl _ wr).alloc (Nat.le_refl _) (.cells #[.int .i64 x1', .int .i64 x2'] 38)))
        have HB2 := Lib.hid (HB.out.alloc HB.out.size (.cells #[.int .i64 x1', .int .i64 x2'] 38))
        unfold stepB at HT
        dsimp only at HT
        by_cases hcmp : u2 - u1 < x2' - x1'
        · rw [if_pos hcmp] at HT
          go_wp2
          go_roundw
          case rel => exact ⟨k + 1, by omega, by go_num, by rw [HT.out]; exact Lib.hid ((HL.out.set (x1', x2') hne1 hne2).on ((Below.refl _ _).alloc (Nat.le_refl _) _)), Lib.hid (((HB.out.setCell (p := ⟨B, 0, none⟩) hwB _).setCell (p := ⟨B, 1, none⟩) hwB _).alloc (by simpa using HB.out.size) _)⟩
          case measure => simp [intOf]; omega
        · rw [if_neg hcmp] at HT
          have hcf : decide (u2 - u1 < x2' - x1') = false := decide_eq_false hcmp
          clear hcmp
          go_wp2
          go_roundw
          case rel => exact ⟨k + 1, by omega, by go_num, by rw [HT.out]; exact HL2, HB2⟩
          case measure => simp [intOf]; omega
      · obtain rfl : k = L.length := by omega
        have b0 := HL.out.b0
        have b1 := HL.out.b1
        rw [List.take_length] at b0 b1
        have a0 := HL.out.r0
        have a1 := HL.out.r1
        have f0 := HL.out.rf 0
        have f1 := HL.out.rf 1
        obtain ⟨u, hu⟩ : ∃ u, bst (0, 0) L = u := ⟨_, rfl⟩
        have HU := Lib.hid hu
        rw [hu] at b0 b1 hz
        clear hu
        by_cases hn0 : L = []
        · have hu0 : u = (0, 0) := by rw [← HU.out, hn0]; rfl
          have HE8 : Hid (E = 8) := Lib.hid (by rw [← HE.out, if_pos hn0])
          obtain ⟨X, hX⟩ : ∃ X, (wr.setCell ⟨w.heap.size + 1, 0, none⟩ (.int .i64 0)).setCell ⟨w.heap.size + 1, 1, none⟩ (.int .i64 0) = X := ⟨_, rfl⟩
          have w0 : X.cell? ⟨w.heap.size + 1, 0, none⟩ = some (.int .i64 0) := by rw [← hX, World.cell?_setCell_other _ _ _ _ (by simp)]; exact World.cell?_setCell_same _ _ _ a0
          have w1 : X.cell? ⟨w.heap.size + 1, 1, none⟩ = some (.int .i64 0) := by rw [← hX]; exact World.cell?_setCell_same _ _ _ ((World.cell?_setCell_other _ _ _ _ (by simp)).trans a1)
          have HBX : Below w.heap.size w X := by rw [← hX]; exact (HB.out.setCell (by simp) _).setCell (by simp) _
          have HU0 : Hid (bst (0, 0) L = (0, 0)) := Lib.hid (HU.out.trans hu0)
          rw [hu0] at b0 b1
          clear hn0 hu0
          go_wp2
          clear hX a0 a1 f0 f1 b0 b1
          refine bodyPost_ret (v := .tuple #[.agg #[.int .i64 0, .int .i64 0], .int .i64 8]) (by simp [results, Tryd.results23, go_sem, w0, w1]) rfl ⟨by rw [HU0.out, HE8.out], HBX⟩
        · have hu0 : ¬ u.2 = 0 := fun h => hn0 (hz.out.1 h)
          have hu1 : (u.2 == 0) = false := beq_eq_false_iff_ne.2 hu0
          have HE0 : Hid (E = 0) := Lib.hid (by rw [← HE.out, if_neg hn0])
          obtain ⟨X, hX⟩ : ∃ X, (wr.setCell ⟨w.heap.size + 1, 0, none⟩ (.int .i64 u.1)).setCell ⟨w.heap.size + 1, 1, none⟩ (.int .i64 u.2) = X := ⟨_, rfl⟩
          have w0 : X.cell? ⟨w.heap.size + 1, 0, none⟩ = some (.int .i64 u.1) := by rw [← hX, World.cell?_setCell_other _ _ _ _ (by simp)]; exact World.cell?_setCell_same _ _ _ a0
          have w1 : X.cell? ⟨w.heap.size + 1, 1, none⟩ = some (.int .i64 u.2) := by rw [← hX]; exact World.cell?_setCell_same _ _ _ ((World.cell?_setCell_other _ _ _ _ (by simp)).trans a1)
          have HBX : Below w.heap.size w X := by rw [← hX]; exact (HB.out.setCell (by simp) _).setCell (by simp) _
          clear hn0 hu0
          go_wp2
          clear hX a0 a1 f0 f1 b0 b1
          refine bodyPost_ret (v := .tuple #[.agg #[.int .i64 u.1, .int .i64 u.2], .int .i64 0]) (by simp [results, Tryd.results23, go_sem, w0, w1]) rfl ⟨by rw [HU.out, HE0.out], HBX⟩
end Go.Proofs.YtfmoedlnjlkiiaaDoor
