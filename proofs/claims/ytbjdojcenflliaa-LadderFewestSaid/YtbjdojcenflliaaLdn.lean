/- fewest: the first of the fewest lists. -/
import Derived.Test.YtbjdojcenflliaaLdl
namespace Go.Proofs.Ytbjdojcenflliaa
open Go.RowKit Go.Shelf Go.Maps
attribute [local go_sem] Oper.semAt_some

set_option maxRecDepth 100000 in
set_option maxHeartbeats 4000000 in
theorem fewest_any (a : Option Addr) (n cap : Nat) (hg : Nat → Int) (us : Nat → Bool) (fi st la : Int) (w : World) (hA : JtAt w a n hg us) (hn : n ≤ 1000) (h1 : ∀ k < n, -1000000 ≤ hg k ∧ hg k ≤ 1000000) (h2 : -1000000 ≤ st ∧ st ≤ 1000000) :
    Calls Try.prog 52 #[.agg #[.slice a n cap, .int .i64 fi, .int .i64 st, .int .i64 la]] w fun e w' => (∃ v, e = .returned v ∧ NAt w' v (fwL hg us n fi st la)) ∧ Below w.heap.size w w' := by
  have HA := Lib.hid hA
  have HC := Lib.hid (fun W hW => counts_any a n cap hg us fi st la W hW hn h1 h2)
  have HL := Lib.hid (fun B t (ht : Int) W hW hI => least_any a n cap hg us fi st la ht B t 0 (ctN hg us n st la) W hW hI hn (by omega) (fun j => Nat.le_trans (ctS_le n j) hn))
  have HM := Lib.hid (fun B fr ht k W => lists_mk a n cap B fi st la fr ht k W)
  have HA0 := HA
  clear hA
  refine (callsIn_wide (n := 6)).1 ?_
  refine callsIn_of_wp_marks Try.func52 rfl trivial ?_ rfl
  simp only [Try.ntmps52, List.size_toArray, List.length_cons, List.length_nil, Nat.reduceAdd, Nat.reduceSub, Array.replicate_succ, Array.replicate_zero, List.push_toArray, List.append_toArray, List.nil_append, List.cons_append]
  refine wpIn_wide.2 ?_
  go_wp2_with fail
  obtain ⟨W0, hW0⟩ : ∃ W0, (w.alloc (.cells #[.slice a n cap, .int .i64 fi, .int .i64 st, .int .i64 la] 60)).alloc (.cells #[.slice none 0 0] 25) = W0 := ⟨_, rfl⟩
  have b0 : Below w.heap.size w W0 := by rw [← hW0]; (repeat' (first | (with_reducible exact Below.refl _ _) | (with_reducible assumption) | (with_reducible refine Below.alloc ?_ ?_ _) | (with_reducible refine Below.drew ?_) | (with_reducible refine below_drewN ?_ _) | (with_reducible refine Below.setCell ?_ ?_ _) | (with_reducible refine below_after ?_ ?_ _) | (with_reducible refine below_set ?_) | (with_reducible refine After.size_le _ ?_) | (with_reducible refine size_alloc_le ?_) | (with_reducible refine size_set_le ?_) | (with_reducible refine size_drewN_le ?_) | go_size))
  have s0 : W0.heap.size = w.heap.size + 2 := by rw [← hW0]; simp
  have k0 : W0.cell? ⟨w.heap.size, 0, none⟩ = some (.slice a n cap) := by rw [← hW0]; simp [go_sem]
  have k1 : W0.cell? ⟨w.heap.size, 1, none⟩ = some (.int .i64 fi) := by rw [← hW0]; simp [go_sem]
  have k2 : W0.cell? ⟨w.heap.size, 2, none⟩ = some (.int .i64 st) := by rw [← hW0]; simp [go_sem]
  have k3 : W0.cell? ⟨w.heap.size, 3, none⟩ = some (.int .i64 la) := by rw [← hW0]; simp [go_sem]
  have kr : W0.cell? ⟨w.heap.size + 1, 0, none⟩ = some (.slice none 0 0) := by rw [← hW0]; simp [go_sem]
  have kf : W0.frozen? ⟨w.heap.size + 1, 0, none⟩ = false := by rw [← hW0]; simp [go_sem]
  have kh : W0.heap[w.heap.size + 1]? = some (.cells #[.slice none 0 0] 25) := by
    rw [← hW0]
    have := World.alloc_heap_new (w.alloc (.cells #[.slice a n cap, .int .i64 fi, .int .i64 st, .int .i64 la] 60)) (.cells #[.slice none 0 0] 25)
    rwa [World.size_alloc] at this
  rw [hW0]
  clear hW0
  refine (HC.out W0 (HA.out.on b0)).mono ?_
  rintro e w2 ⟨⟨B, t, rfl, hB, ht, hI⟩, hb2⟩
  have f2 : Fr (fun _ => False) W0 w2 := (Fr.refl W0).call hb2
  have k0 := f2.cell (p := ⟨w.heap.size, 0, none⟩) id k0
  have k1 := f2.cell (p := ⟨w.heap.size, 1, none⟩) id k1
  have k2 := f2.cell (p := ⟨w.heap.size, 2, none⟩) id k2
  have k3 := f2.cell (p := ⟨w.heap.size, 3, none⟩) id k3
  have kf := (f2.frozen (p := ⟨w.heap.size + 1, 0, none⟩) id (World.block_lt_of_cell? _ _ kr)).trans kf
  have kr := f2.cell (p := ⟨w.heap.size + 1, 0, none⟩) id kr
  have s2 := f2.size
  have kh := (f2.same _ (by omega) id).trans kh
  have HB2 := Lib.hid (b0.trans (hb2.mono b0.size))
  have HI2 := Lib.hid hI
  have HA2 := Lib.hid (HA.out.on HB2.out)
  clear b0 hb2 f2 hI HA HC
  have HL2 := Lib.hid (HL.out B t fi w2 HA2.out HI2.out)
  go_wp2_with fail
  refine HL2.out.mono ?_
  rintro e w3 ⟨rfl, hb3⟩
  have f3 : Fr (fun _ => False) w2 w3 := (Fr.refl w2).call hb3
  have k0 := f3.cell (p := ⟨w.heap.size, 0, none⟩) id k0
  have k1 := f3.cell (p := ⟨w.heap.size, 1, none⟩) id k1
  have k2 := f3.cell (p := ⟨w.heap.size, 2, none⟩) id k2
  have k3 := f3.cell (p := ⟨w.heap.size, 3, none⟩) id k3
  have kf := (f3.frozen (p := ⟨w.heap.size + 1, 0, none⟩) id (World.block_lt_of_cell? _ _ kr)).trans kf
  have kr := f3.cell (p := ⟨w.heap.size + 1, 0, none⟩) id kr
  have s3 := f3.size
  have kh := (f3.same _ (by omega) id).trans kh
  have HB3 := Lib.hid (HB2.out.trans (hb3.mono HB2.out.size))
  have HI3 := Lib.hid (HI2.out.fr f3 id)
  have HA3 := Lib.hid (HA2.out.fr f3 (fun _ _ _ _ => id))
  clear hb3 f3 HL2 HL HB2 HI2 HA2
  have hm9 : lsL (ctN hg us n st la) (upT hg us n fi 0) ≤ 1000 := by
    by_cases h0 : lsL (ctN hg us n st la) (upT hg us n fi 0) = 0
    · omega
    · obtain ⟨j, _, hj⟩ := ls_some h0
      have := ctS_le (h := hg) (u := us) (N := n) (st := st) (la := la) n j
      unfold ctN at hj ⊢
      omega
  have HW : Hid (fwL hg us n fi st la = fsL hg us n st (ctN hg us n st la) (lsL (ctN hg us n st la) (upT hg us n fi 0)) fi 0) := Lib.hid rfl
  obtain ⟨m, hm⟩ : ∃ m, lsL (ctN hg us n st la) (upT hg us n fi 0) = m := ⟨_, rfl⟩
  rw [hm] at HW hm9 ⊢
  rcases m with _ | m
  · go_wp2
    have kz : (w3.setCell ⟨w.heap.size + 1, 0, none⟩ (.slice none 0 0)).cell? ⟨w.heap.size + 1, 0, none⟩ = some (.slice none 0 0) := World.cell?_setCell_same _ _ _ kr
    refine ⟨.slice none 0 0, ?_, ⟨_, rfl, .inl ⟨rfl, ?_⟩⟩, HB3.out.setCell (p := ⟨w.heap.size + 1, 0, none⟩) (by simp) _⟩
    · simp [results, Try.results52, go_sem, kz]
    · rw [HW.out]; rfl
  · have hmI : (0 : Int) < ((m + 1 : Nat) : Int) := by omega
    go_wp2_with fail
    refine (HM.out B 0 fi ((m : Int) + 1) w3).mono ?_
    rintro e w4 ⟨rfl, hZ4⟩
    have f4 : Fr (fun _ => False) w3 w4 := by rw [← hZ4]; exact (((((Fr.refl w3).alloc _).alloc _).alloc _).alloc _).alloc _
    have s4 : w4.heap.size = w3.heap.size + 5 := by rw [← hZ4]; simp
    have lr : RtB w4 w3.heap.size (.slice a n cap) fi st la := by rw [← hZ4]; exact ⟨by simp; omega, by simp [go_sem], by simp [go_sem], by simp [go_sem], by simp [go_sem], fun o => by simp [go_sem]⟩
    have l1 : w4.cell? ⟨w3.heap.size + 1, 0, none⟩ = some (.map (some B)) := by rw [← hZ4]; simp [go_sem]
    have l2 : w4.cell? ⟨w3.heap.size + 1 + 1, 0, none⟩ = some (.int .i64 (0 : Nat)) := by rw [← hZ4]; simp [go_sem]
    have l3 : w4.cell? ⟨w3.heap.size + 1 + 1 + 1, 0, none⟩ = some (.int .i64 fi) := by rw [← hZ4]; simp [go_sem]
    have l4 : w4.cell? ⟨w3.heap.size + 1 + 1 + 1 + 1, 0, none⟩ = some (.int .i64 ((m : Int) + 1)) := by rw [← hZ4]; simp [go_sem]
    have kf := (f4.frozen (p := ⟨w.heap.size + 1, 0, none⟩) id (World.block_lt_of_cell? _ _ kr)).trans kf
    have kr := f4.cell (p := ⟨w.heap.size + 1, 0, none⟩) id kr
    have kh := (f4.same _ (by omega) id).trans kh
    have HB4 := Lib.hid (HB3.out.trans (f4.below HB3.out.size (fun _ _ h => h)))
    have HI4 := Lib.hid (HI3.out.fr f4 id)
    have HA4 := Lib.hid (HA3.out.fr f4 (fun _ _ _ _ => id))
    have hab : ∀ b off, a = some ⟨b, off, none⟩ → 0 < n → ¬ b = w.heap.size + 1 := fun b off e h => by
      obtain ⟨b', off', e', h1, _⟩ := HA0.out 0 h
      rw [e] at e'; cases e'; omega
    clear hZ4 f4 HB3 HI3 HA3 HM k0 k1 k2 k3
    go_wp2
    refine wpIn_wide (n := 6).1 ?_
    refine wpIn_rangeFunc_x rfl (by omega) (gf := 79) (lb := #[.pointer (some ⟨w3.heap.size, 0, none⟩), .pointer (some ⟨w3.heap.size + 1 + 1, 0, none⟩), .pointer (some ⟨w3.heap.size + 1 + 1 + 1, 0, none⟩), .pointer (some ⟨w3.heap.size + 1, 0, none⟩), .pointer (some ⟨w3.heap.size + 1 + 1 + 1 + 1, 0, none⟩)]) rfl trivial (enters_of Try.func79 (by kernel_rfl) rfl)
      (M := fun j => j = w.heap.size + 1)
      (lists1_step a n cap hg us fi st la _ B t m hn (fun j => Nat.le_trans (ctS_le n j) hn) (rest_x a n cap hg us fi st la B t hn h1 h2 m) 5 w3.heap.size (w3.heap.size + 1 + 1) (w3.heap.size + 1 + 1 + 1) (w3.heap.size + 1) (w3.heap.size + 1 + 1 + 1 + 1) 0 fi _ w4 hm (by omega) (fun j hj => ⟨by omega, by omega, by omega, by omega, by omega, by omega, by omega⟩) hab lr l2 l3 l1 l4 HA4.out HI4.out)
      (fun j h => by omega) (fun _ => rfl)
      (fun V => V.heap[w.heap.size + 1]? = some (.cells #[.slice none 0 0] 25) ∧ Below w.heap.size w V)
      (fun cd V => cd = .ret ∧ (∃ v, V.cell? ⟨w.heap.size + 1, 0, none⟩ = some v ∧ NAt V v (fwL hg us n fi st la)) ∧ Below w.heap.size w V)
      ?hI ?hIx (fun x' => nat_bides _ x' _) ⟨kh, HB4.out⟩
      (fun x => { tmps := #[.agg #[.slice a n cap, .int .i64 fi, .int .i64 st, .int .i64 la], .pointer (some ⟨w.heap.size, 0, none⟩), .pointer (some ⟨w.heap.size + 1, 0, none⟩), .map (some B), .int .i64 ((m : Int) + 1), x, .agg #[.slice a n cap, .int .i64 fi, .int .i64 st, .int .i64 la], .map (some B), .agg #[.slice a n cap, .int .i64 fi, .int .i64 st, .int .i64 la], .map (some B), .pointer (some ⟨w.heap.size, 1, none⟩), .int .i64 fi, .int .i64 ((m : Int) + 1), .int .i64 ((m : Int) + 1), .bool true, .agg #[.slice a n cap, .int .i64 fi, .int .i64 st, .int .i64 la], .map (some B), .pointer (some ⟨w.heap.size, 1, none⟩), .int .i64 fi, .int .i64 ((m : Int) + 1), .func (.func 79) #[] #[.pointer (some ⟨w3.heap.size, 0, none⟩), .pointer (some ⟨w3.heap.size + 1 + 1, 0, none⟩), .pointer (some ⟨w3.heap.size + 1 + 1 + 1, 0, none⟩), .pointer (some ⟨w3.heap.size + 1, 0, none⟩), .pointer (some ⟨w3.heap.size + 1 + 1 + 1 + 1, 0, none⟩)], x, undef], defers := [] })
      ?assign ?body ?stop
    case hI =>
      rintro s A A' ⟨h1, h2⟩ hf
      have l1 := (Array.getElem?_eq_some_iff.1 h1).1
      refine ⟨(hf.same _ l1 (fun h => by have := h.1; omega)).trans h1, h2.trans (hf.below h2.size (fun j hj h => by have := h.1; omega))⟩
    case hIx =>
      rintro cd s A A' ⟨h0, ⟨v, h1, h3⟩, h2⟩ hf
      exact ⟨h0, ⟨v, hf.cell (p := ⟨w.heap.size + 1, 0, none⟩) (fun h => by have := h.1; dsimp only at this; omega) h1, nat_bides _ v _ () _ _ h3 hf⟩, h2.trans (hf.below h2.size (fun j hj h => by have := h.1; omega))⟩
    case assign =>
      intro l2 x V K hK
      gi_wp2
      exact hK
    case body =>
      rintro l2 x V hl2 ⟨r2, hr2⟩ hN ⟨h1, h2⟩ hsz
      have hcr := cell_of_row V (w.heap.size + 1) 0 _ _ _ h1
      have hca : ∀ j, V.cell? ⟨w.heap.size + 1, j, none⟩ = #[(Value.slice none 0 0)][j]? := fun j => cell_of_row V (w.heap.size + 1) j _ _ _ h1
      have hfz : V.frozen? ⟨w.heap.size + 1, 0, none⟩ = false := by simp [World.frozen?, h1]
      have hc0 : V.cell? ⟨w.heap.size + 1, 0, none⟩ = some (.slice none 0 0) := by rw [hca]; rfl
      have HQ : Hid (∀ v, NAt V v (fwL hg us n fi st la) → NAt (V.setCell ⟨w.heap.size + 1, 0, none⟩ v) v (fwL hg us n fi st la)) := Lib.hid (fun v h => by
        rcases h with h | ⟨b, off, cp, e, q1, q2⟩
        · exact .inl h
        · refine .inr ⟨b, off, cp, e, by simpa using q1, fun i hi => ?_⟩
          refine (World.cell?_setCell_other _ _ _ _ (fun e => ?_)).trans (q2 i hi)
          have q3 := q2 i hi
          obtain ⟨e1, e2, _⟩ := Addr.mk.inj e
          rw [← e1, hca, show off + i = 0 by omega] at q3
          cases q3)
      obtain ⟨xa, xn, xc, rfl⟩ : ∃ xa xn xc, x = .slice xa xn xc := by
        rcases hN with ⟨rfl, _⟩ | ⟨b, off, cp, rfl, _⟩ <;> exact ⟨_, _, _, rfl⟩
      have HN := Lib.hid hN
      have HB := Lib.hid h2
      clear hcr hca hN h2 h1 hr2
      gi_wp2
      refine ⟨(Fr.refl (M := fun j => j = w.heap.size + 1) V).setCell (p := ⟨w.heap.size + 1, 0, none⟩) (.inl rfl) _, rfl, ⟨_, World.cell?_setCell_same _ _ _ hc0, HQ.out _ ?_⟩, HB.out.setCell (p := ⟨w.heap.size + 1, 0, none⟩) (by simp) _⟩
      rw [HW.out]
      exact HN.out
    case stop =>
      rintro D cd V hD ⟨rfl, ⟨v, h1, h2⟩, h3⟩ hK
      have HQ := Lib.hid (And.intro h2 h3)
      have HKd := Lib.hid hK
      have HD : Hid (D ≠ w.heap.size + 1) := Lib.hid (by omega)
      clear h2 h3 hK
      gi_wp2
      refine leaves_one D _ HKd.out fun W' hF' => ?_
      have h4 := hF'.cell (p := ⟨w.heap.size + 1, 0, none⟩) (fun e => HD.out e.symm) h1
      refine ⟨v, by simp [results, Try.results52, go_sem, h4], ⟨v, rfl, nat_bides w4.heap.size v _ () _ _ HQ.out.1 (hF'.mono fun j _ e => ⟨by omega, _, e ▸ HKd.out, rfl⟩)⟩, HQ.out.2.trans (hF'.below HQ.out.2.size (fun j hj e => by omega))⟩
end Go.Proofs.Ytbjdojcenflliaa
