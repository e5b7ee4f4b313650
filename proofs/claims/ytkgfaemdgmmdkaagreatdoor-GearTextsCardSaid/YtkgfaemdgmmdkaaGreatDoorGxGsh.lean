/- shares of a rig: a range over an iterator in a loop over a slice. -/
import Derived.Test.YtkgfaemdgmmdkaaGreatDoorGxGsm
import Derived.Test.YtkgfaemdgmmdkaaGreatDoorGxGmo
namespace Go.Proofs.YtkgfaemdgmmdkaaGreatDoor.Gx
open Go.Proofs.YtkgfaemdgmmdkaaGreatDoor
open Go.RowKit Go.Shelf
attribute [local go_sem] Oper.semAt_some

theorem grw_of {W : World} {B : Nat} {v : Value} {n : Nat} {g : Nat → Int} (h : W.ownsRow B 3 1 v n (gxs g n)) (hn : 0 < n) : ∃ b cap, v = .slice (some ⟨b, 0, none⟩) n cap ∧ B ≤ b ∧ GRw W b n g := by
  obtain ⟨b, cap, rfl⟩ := Go.Joins.ownsRow_form h hn
  refine ⟨b, cap, rfl, (h.lt b rfl).1, (h.lt b rfl).2, fun k hk => ⟨?_, h.frozenAt k⟩⟩
  rw [h.cellAt _ (by omega)]
  exact gxs_get hk
/-- The cells of a list of whole numbers. -/
def zvs (L : List Int) : List Value := L.map fun i => .int .i64 i
theorem zvs_snoc (L : List Int) (k : Int) : zvs (L ++ [k]) = zvs L ++ [.int .i64 k] := by simp [zvs]
/-- Where a slice's whole numbers lie. -/
def ZAt (W : World) (v : Value) (L : List Int) : Prop := ∃ a cap, v = .slice a L.length cap ∧ ∀ i, i < L.length → ∃ b off, a = some ⟨b, off, none⟩ ∧ b < W.heap.size ∧ W.cell? ⟨b, off + i, none⟩ = some (.int .i64 (L.getD i 0))
theorem ZAt.on {w W : World} {v : Value} {L : List Int} (h : ZAt w v L) (hb : Below w.heap.size w W) : ZAt W v L := by
  obtain ⟨a, cap, e, h1⟩ := h
  refine ⟨a, cap, e, fun i hi => ?_⟩
  obtain ⟨b, off, e2, h2, h3⟩ := h1 i hi
  exact ⟨b, off, e2, Nat.lt_of_lt_of_le h2 hb.size, (hb.cell (p := ⟨b, off + i, none⟩) h2).trans h3⟩
theorem zat_of {W : World} {B : Nat} {v : Value} {L : List Int} (h : W.ownsRow B 3 1 v L.length (zvs L)) : ZAt W v L := by
  obtain ⟨a, cap, rfl⟩ := ownsR_shape h
  refine ⟨a, cap, rfl, fun i hi => ?_⟩
  obtain ⟨g, c, e⟩ := Go.Joins.ownsRow_form h (by omega)
  cases e
  refine ⟨g, 0, rfl, (h.lt g rfl).2, ?_⟩
  rw [Nat.zero_add, h.cellAt _ (by omega)]
  unfold zvs
  rw [List.getElem?_map, List.getElem?_eq_getElem hi]
  simp [hi]
theorem ownsR_fr {B : Nat} {e : TypeId} {k : Nat} {v : Value} {n : Nat} {xs : List Value} {M : Nat → Prop} {w w' : World} (h : w.ownsRow B e k v n xs) (hf : Fr M w w') (hM : ∀ g, B ≤ g → g < w.heap.size → (∃ o, w.heap[g]? = some o ∧ o.isCells = true) → ¬ M g) : w'.ownsRow B e k v n xs := by
  obtain ⟨h1, h2 | ⟨g, cap, cur, a1, a2, a3, a4⟩⟩ := h
  · exact ⟨h1, .inl h2⟩
  · have hl := (Array.getElem?_eq_some_iff.1 a3).1
    exact ⟨h1, .inr ⟨g, cap, cur, a1, a2, (hf.same g hl (hM g a2 hl ⟨_, a3, rfl⟩)).trans a3, a4⟩⟩
theorem ownBlock_cells {W : World} {B : Nat} {T : TypeId} {c n : Nat} {v : Value} {xs : List Value} (h : W.ownsRow B T c v n xs) : ∀ j, v.ownBlock = some j → W.heap[j]? ≠ some (.deferred (some [])) := fun j hj => by
  rcases h.2 with ⟨rfl, _⟩ | ⟨g, cap, cur, rfl, _, hg, _⟩
  · simp [Value.ownBlock] at hj
  · simp [Value.ownBlock] at hj
    subst hj
    rw [hg]
    simp
theorem owns_far {W : World} {B : Nat} {T : TypeId} {c n cap : Nat} {a : Option Addr} {xs : List Value} (h : W.ownsRow B T c (.slice a n cap) n xs) (hn : 0 < n) : ∀ b off, a = some ⟨b, off, none⟩ → B ≤ b := fun b off e => by
  obtain ⟨g, c, q⟩ := Go.Joins.ownsRow_form h hn
  subst e
  cases q
  exact (h.lt _ rfl).1
set_option maxRecDepth 100000 in
set_option maxHeartbeats 4000000 in
theorem shares_any (al : Option Addr) (m capl : Nat) (lm : Nat → List UInt8) (lf : Nat → Int) (a2 : Option Addr) (c2 : Nat) (gm : Nat → List UInt8) (gl gd : Nat → Int) (gb : Nat → List UInt8) (w : World) (hL : LkAt w al m lm lf) (hI : ItAt w a2 m gm gl gd gb) (hm : m ≤ 1000) (hm1 : 1 ≤ m) (hv : ∀ k, k < m → lf k < k ∧ -1 ≤ lf k) (hld : LdOk m gl) :
    Calls Tryz.prog 29 #[.agg #[.slice al m capl, .slice a2 m c2]] w fun e w' => ∃ v, e = .returned v ∧ ZAt w' v (shN lf m gl (thN (enB m lf) m)).2 ∧ Below w.heap.size w w' := by
  have HLi := Lib.hid (fun W (hW : Below w.heap.size w W) => limits_any (.slice al m capl) a2 m c2 gm gl gd gb W (hI.on hW) hm)
  have HEn := Lib.hid (fun W (hW : Below w.heap.size w W) => ends_any al m capl (.slice a2 m c2) lm lf W (hL.on hW) hm hv)
  have HLt := Lib.hid (fun W (hW : Below w.heap.size w W) B c g (hg : GAt W (some ⟨B, 0, none⟩) m g) e (he : e < m) => least_any al m capl (.slice a2 m c2) lm lf (some ⟨B, 0, none⟩) c g e W (hL.on hW) hm hv he hg)
  have HL := Lib.hid hL
  have HV := Lib.hid hv
  have HLd := Lib.hid hld
  clear hL hI hld hv
  refine (callsIn_wide (n := 6)).1 ?_
  refine callsIn_of_wp_marks Tryz.func29 rfl trivial ?_ rfl
  simp only [Tryz.ntmps29, List.size_toArray, List.length_cons, List.length_nil, Nat.reduceAdd, Nat.reduceSub, Array.replicate_succ, Array.replicate_zero, List.push_toArray, List.append_toArray, List.nil_append, List.cons_append]
  refine wpIn_wide.2 ?_
  go_wp2_with fail
  refine (HLi.out _ ((Below.refl _ w).alloc (Nat.le_refl _) _)).mono ?_
  rintro e w2 ⟨v, rfl, hO, hb2⟩
  obtain ⟨Bl, capL, rfl, hBl, hG⟩ := grw_of hO hm1
  clear hO HLi
  have hB2 : Below w.heap.size w w2 := ((Below.refl w.heap.size w).alloc (Nat.le_refl _) (.cells #[.slice al m capl, .slice a2 m c2] 68)).trans (hb2.mono (by simp))
  have r0 : w2.cell? ⟨w.heap.size, 0, none⟩ = some (.slice al m capl) := (hb2.cell (p := ⟨w.heap.size, 0, none⟩) (by simp)).trans (by simp [go_sem])
  have r1 : w2.cell? ⟨w.heap.size, 1, none⟩ = some (.slice a2 m c2) := (hb2.cell (p := ⟨w.heap.size, 1, none⟩) (by simp)).trans (by simp [go_sem])
  have hs2 := hb2.size
  simp at hs2 hBl
  have HG2 := Lib.hid hG
  have HB2 := Lib.hid hB2
  clear hb2 hB2 hG
  have q0 : (w2.alloc (.cells #[.slice (some ⟨Bl, 0, none⟩) m capL] 39)).cell? ⟨w.heap.size, 0, none⟩ = some (.slice al m capl) := (((Below.refl w2.heap.size w2).alloc (Nat.le_refl _) _).cell (p := ⟨w.heap.size, 0, none⟩) (by dsimp only; omega)).trans r0
  have q1 : (w2.alloc (.cells #[.slice (some ⟨Bl, 0, none⟩) m capL] 39)).cell? ⟨w.heap.size, 1, none⟩ = some (.slice a2 m c2) := (((Below.refl w2.heap.size w2).alloc (Nat.le_refl _) _).cell (p := ⟨w.heap.size, 1, none⟩) (by dsimp only; omega)).trans r1
  go_wp2_with fail
  refine (HEn.out _ (HB2.out.alloc HB2.out.size _)).mono ?_
  rintro e W0 ⟨v, rfl, hO, hb3⟩
  obtain ⟨ae, ce, rfl, hen⟩ := nat_of hO
  have HFar := Lib.hid (owns_far hO)
  clear hO HEn
  have B0 : Below w.heap.size w W0 := (HB2.out.alloc HB2.out.size (.cells #[.slice (some ⟨Bl, 0, none⟩) m capL] 39)).trans (hb3.mono (by have := HB2.out.size; simp; omega))
  have hb4 : Below w2.heap.size w2 W0 := ((Below.refl w2.heap.size w2).alloc (Nat.le_refl _) (.cells #[.slice (some ⟨Bl, 0, none⟩) m capL] 39)).trans (hb3.mono (by simp))
  have c3 : W0.cell? ⟨w2.heap.size, 0, none⟩ = some (.slice (some ⟨Bl, 0, none⟩) m capL) := (hb3.cell (p := ⟨w2.heap.size, 0, none⟩) (by simp)).trans (by simp [go_sem])
  have r0 := (hb4.cell (p := ⟨w.heap.size, 0, none⟩) (by dsimp only; omega)).trans r0
  have r1 := (hb4.cell (p := ⟨w.heap.size, 1, none⟩) (by dsimp only; omega)).trans r1
  have HG0 := Lib.hid (HG2.out.on hb4)
  have hs4 := hb3.size
  simp at hs4
  have hBl2 : Bl < w2.heap.size := HG2.out.1
  have HB0 := Lib.hid B0
  clear hb3 hb4 HG2 HB2 B0
  have HEN := Lib.hid hen
  have HLen := Lib.hid (thN_len (enB m lf) m)
  have HMem : Hid (∀ e ∈ thN (enB m lf) m, e < m) := Lib.hid (fun e he => by unfold thN at he; exact List.mem_range.1 (List.mem_filter.1 he).1)
  clear hen
  generalize hLe : thN (enB m lf) m = L at *
  have HLe := Lib.hid hLe
  clear hLe
  have hLI : ((L.length : Nat) : Int) ≤ 1000 := by have := HLen.out; omega
  obtain ⟨i0, hi, hz0, hz1, hz2⟩ := info_parts intInfo7
  go_wp2_with fail
  refine wpIn_wide (n := 6).1 ?_
  refine wpIn_loop (fun a' W => ∃ (k : Nat) (Ds : List Nat) (u4 u6 u7 u15 u16 u17 u18 u19 u20 u21 u22 u23 u24 u33 u34 u35 u36 u37 : Value), (k ≤ L.length ∧ Hid (Fr (fun j => j = Bl) W0 W) ∧ Hid (GRw W Bl m (shN lf m gl (L.take k)).1) ∧ Hid (W.ownsRow W0.heap.size 3 1 u4 k (zvs (shN lf m gl (L.take k)).2)) ∧ Hid (MrkOk W0.heap.size Ds W)) ∧
    a' = { tmps := #[.agg #[.slice al m capl, .slice a2 m c2], .pointer (some ⟨w.heap.size, 0, none⟩), .slice none 0 0, .pointer (some ⟨w2.heap.size, 0, none⟩), u4, undef, u6, u7, undef, .agg #[.slice al m capl, .slice a2 m c2], .slice (some ⟨Bl, 0, none⟩) m capL, .agg #[.slice al m capl, .slice a2 m c2], .slice ae L.length ce, .int .i64 (L.length : Nat), .int .i64 (k : Nat), u15, u16, u17, u18, u19, u20, u21, u22, u23, u24, undef, undef, undef, undef, undef, undef, undef, undef, u33, u34, u35, u36, u37, undef], defers := Ds.map mkD })
    (fun a' _ => L.length - (intOf (a'.tmps.getD 14 undef)).toNat) ?start ?round
  case start => exact ⟨0, [], _, _, _, _, _, _, _, _, _, _, _, _, _, _, _, _, _, _, ⟨Nat.zero_le _, Lib.hid (Fr.refl _), Lib.hid (by simpa [shN] using HG0.out), Lib.hid (World.ownsRow_nil _ _ _ _), Lib.hid (MrkOk.nil _ _)⟩, rfl⟩
  case round =>
    rintro _ W ⟨k, Ds, u4, u6, u7, u15, u16, u17, u18, u19, u20, u21, u22, u23, u24, u33, u34, u35, u36, u37, ⟨hk, HF, HG, HO, HM⟩, rfl⟩
    have hBW := HB0.out.trans (HF.out.below HB0.out.size (fun j hj => by omega))
    have HBW := Lib.hid hBW
    have r0 := HF.out.cell (p := ⟨w.heap.size, 0, none⟩) (by dsimp only; omega) r0
    have r1 := HF.out.cell (p := ⟨w.heap.size, 1, none⟩) (by dsimp only; omega) r1
    have c3W := HF.out.cell (p := ⟨w2.heap.size, 0, none⟩) (by dsimp only; omega) c3
    clear hBW
    refine wpIn_wide.2 ?_
    by_cases hlt : k < L.length
    · have hlti : (k : Int) < (L.length : Int) := by omega
      obtain ⟨be, offe, rfl, hbe, cE⟩ := HEN.out k hlt
      have hbef := HFar.out (by omega) be offe rfl
      have cE := HF.out.cell (p := ⟨be, offe + k, none⟩) (by dsimp only; simp at hbef; omega) cE
      have HSt := Lib.hid (shN_take (lf := lf) (m := m) (g := gl) hlt)
      have he : L.getD k 0 < m := HMem.out _ (by rw [List.getD_eq_getElem?_getD, List.getElem?_eq_getElem hlt]; exact List.getElem_mem _)
      have HLk := Lib.hid (LdOk.take HV.out HLd.out HMem.out k hk)
      generalize L.getD k 0 = en at *
      generalize shN lf m gl (L.take k) = st at *
      go_wp2_with fail
      refine (HLt.out W HBW.out Bl capL st.1 HG.out.at en he).mono ?_
      rintro e w5 ⟨rfl, hb5⟩
      obtain ⟨hs0, hs1⟩ := HLk.out.share HV.out he
      have HSd : Hid (shS lf m st en = (subU st.1 (mnU st.1 (st.1 en) (upL lf (m + 1) (en : Nat))) (upL lf (m + 1) (en : Nat)), st.2 ++ [mnU st.1 (st.1 en) (upL lf (m + 1) (en : Nat))])) := Lib.hid rfl
      generalize mnU st.1 (st.1 en) (upL lf (m + 1) (en : Nat)) = sh at *
      have hz5 := hb5.size
      have HF5 := Lib.hid (HF.out.call hb5)
      have HG5 := Lib.hid (HG.out.on hb5)
      have HO5 := Lib.hid (ownsR_stay HO.out hb5)
      have HM5 := Lib.hid (HM.out.on hb5)
      have HB5 := Lib.hid (HBW.out.trans (hb5.mono HBW.out.size))
      have q0 : (w5.alloc (.cells #[.int .i64 sh] 3)).cell? ⟨w.heap.size, 0, none⟩ = some (.slice al m capl) := (((hb5.alloc hz5 _)).cell (p := ⟨w.heap.size, 0, none⟩) (World.block_lt_of_cell? W _ r0)).trans r0
      have q1 : (w5.alloc (.cells #[.int .i64 sh] 3)).cell? ⟨w.heap.size, 1, none⟩ = some (.slice a2 m c2) := (((hb5.alloc hz5 _)).cell (p := ⟨w.heap.size, 1, none⟩) (World.block_lt_of_cell? W _ r1)).trans r1
      have hszW := HF.out.size
      clear HF HG HO HM HBW hb5 r0 r1 cE HEN
      have HUp := Lib.hid (fun W => up_mk (.slice al m capl) (.slice a2 m c2) en W)
      go_wp2_with (go_at_call 46; refine (HUp.out _).mono ?_; rintro e w9 ⟨rfl, rfl⟩)
      obtain ⟨V0, hV0⟩ : ∃ V0, ((w5.alloc (.cells #[.int .i64 sh] 3)).alloc (.cells #[.slice al m capl, .slice a2 m c2] 68)).alloc (.cells #[.int .i64 (en : Nat)] 3) = V0 := ⟨_, rfl⟩
      have bV : Below w5.heap.size w5 V0 := by rw [← hV0]; (repeat' (first | (with_reducible exact Below.refl _ _) | (with_reducible assumption) | (with_reducible refine Below.alloc ?_ ?_ _) | (with_reducible refine Below.drew ?_) | (with_reducible refine below_drewN ?_ _) | (with_reducible refine Below.setCell ?_ ?_ _) | (with_reducible refine below_after ?_ ?_ _) | (with_reducible refine below_set ?_) | (with_reducible refine After.size_le _ ?_) | (with_reducible refine size_alloc_le ?_) | (with_reducible refine size_set_le ?_) | (with_reducible refine size_drewN_le ?_) | go_size))
      have es : V0.heap.size = w5.heap.size + 3 := by rw [← hV0]; simp
      have cs : V0.cell? ⟨w5.heap.size, 0, none⟩ = some (.int .i64 sh) := by rw [← hV0]; simp [go_sem]
      have cf : V0.cell? ⟨w5.heap.size + 1 + 1, 0, none⟩ = some (.int .i64 (en : Nat)) := by rw [← hV0]; simp [go_sem]
      have cr : V0.cell? ⟨w5.heap.size + 1, 0, none⟩ = some (.slice al m capl) := by rw [← hV0]; simp [go_sem]
      have c3 := (HF5.out.call bV).cell (p := ⟨w2.heap.size, 0, none⟩) (by dsimp only; omega) c3
      have HFV := Lib.hid (HF5.out.call bV)
      have HGV := Lib.hid (HG5.out.on bV)
      have HOV := Lib.hid (ownsR_stay HO5.out bV)
      have HMV := Lib.hid (HM5.out.on bV)
      have HBV := Lib.hid (HB5.out.trans (bV.mono HB5.out.size))
      have HLV := HL.out.on HBV.out
      have hab : ∀ b off, al = some ⟨b, off, none⟩ → 0 < m → b < w.heap.size := fun b off e h => by
        obtain ⟨b', off', e', h1, _⟩ := HL.out 0 h
        rw [e] at e'; cases e'; exact h1
      rw [hV0]
      clear hV0 q0 q1 HF5 HG5 HO5 HM5 HB5 bV HUp HLt
      refine wpIn_wide (n := 6).1 ?_
      refine wpIn_rangeFunc_fr rfl (by omega) (gf := 59) (lb := #[.pointer (some ⟨w5.heap.size + 1 + 1, 0, none⟩), .pointer (some ⟨w5.heap.size + 1, 0, none⟩)]) rfl trivial (enters_of Tryz.func59 (by kernel_rfl) rfl)
        (O := fun _ => False) (M := fun j => j = Bl) (fun _ h => h.elim)
        (up1_fr 5 (by omega) (w5.heap.size + 1 + 1) (w5.heap.size + 1) al m capl lm lf _ V0 (fun j h => by omega) (by omega) (fun b off e h0 h => by have := hab b off e h0; omega) hm en he HV.out cf cr HLV)
        (fun j h => by omega) (fun _ => rfl)
        (fun pre V => GRw V Bl m (subU st.1 sh pre) ∧ Fr (fun j => j = Bl) V0 V)
        (fun c pre V => False)
        (fun pre A A' hs hf => by
          obtain ⟨h1, h2⟩ := hs
          have nb : ∀ i, i < V0.heap.size → ¬ OwnM (fun _ => False) V0.heap.size (V0.heap.size + 2 + 0) A i := fun i hi h => by
            rcases h with h | ⟨h, _⟩
            · exact h
            · omega
          exact ⟨h1.fr hf (nb _ (by omega)), h2.then hf (fun i hi _ _ => nb i hi)⟩)
        (fun c pre A A' hs hf => hs)
        ⟨by rw [subU_nil]; exact HGV.out, Fr.refl _⟩
        (fun x a' V => a' = { tmps := #[.agg #[.slice al m capl, .slice a2 m c2], .pointer (some ⟨w.heap.size, 0, none⟩), .slice none 0 0, .pointer (some ⟨w2.heap.size, 0, none⟩), u4, undef, .int .i64 (en : Nat), .pointer (some ⟨w5.heap.size, 0, none⟩), .int .i64 (x : Nat), .agg #[.slice al m capl, .slice a2 m c2], .slice (some ⟨Bl, 0, none⟩) m capL, .agg #[.slice al m capl, .slice a2 m c2], .slice (some ⟨be, offe, none⟩) L.length ce, .int .i64 (L.length : Nat), .int .i64 (k : Nat), .bool true, .pointer (some ⟨be, offe + k, none⟩), .int .i64 (en : Nat), .agg #[.slice al m capl, .slice a2 m c2], .slice (some ⟨Bl, 0, none⟩) m capL, .int .i64 (en : Nat), .int .i64 sh, .agg #[.slice al m capl, .slice a2 m c2], .int .i64 (en : Nat), .func (.func 59) #[] #[.pointer (some ⟨w5.heap.size + 1 + 1, 0, none⟩), .pointer (some ⟨w5.heap.size + 1, 0, none⟩)], .int .i64 (x : Nat), undef, undef, undef, undef, undef, undef, undef, u33, u34, u35, u36, u37, undef], defers := [] })
        (fun x a' _ A A' hs hf => hs)
        ?assign ?body ?done ?stop
      case assign =>
        rintro l' pre x V K hnx hI hsz hK
        gi_wp2
        exact hK _ _ (Fr.refl V) hI rfl
      case body =>
        rintro l' pre x a' V ⟨r, hr⟩ ⟨rst, hnx⟩ ⟨h1, h2⟩ rfl hsz
        have heI : (en : Int) < (m : Int) := by omega
        have hxm : x < m := upL_lt HV.out _ _ heI x (by rw [hnx]; simp)
        have hxI : (x : Int) < (m : Int) := by omega
        have hxn : x ∉ pre := upL_new HV.out heI hnx
        have hl1 := HLk.out x hxm
        obtain ⟨d0, d1⟩ := h1.2 x hxm
        rw [subU_new hxn] at d0
        have c3 := h2.cell (p := ⟨w2.heap.size, 0, none⟩) (by dsimp only; omega) c3
        have cs := h2.cell (p := ⟨w5.heap.size, 0, none⟩) (by dsimp only; omega) cs
        have fin : Fr (RndM NoZ (fun j => j = Bl) (V0.heap.size + 2 + 0) V) V (V.setCell ⟨Bl, x, none⟩ (.int .i64 (st.1 x - sh))).drew ∧ GRw (V.setCell ⟨Bl, x, none⟩ (.int .i64 (st.1 x - sh))).drew Bl m (subU st.1 sh (pre ++ [x])) ∧ Fr (fun j => j = Bl) V0 (V.setCell ⟨Bl, x, none⟩ (.int .i64 (st.1 x - sh))).drew := by
          have F4 : Fr (fun j => j = Bl) V (V.setCell ⟨Bl, x, none⟩ (.int .i64 (st.1 x - sh))).drew := (Fr.setCell (M := fun j => j = Bl) (Fr.refl V) (p := ⟨Bl, x, none⟩) (.inl rfl) _).drew
          exact ⟨F4.mono fun j _ h => .inl h, h1.set (st.1 x - sh) (fun i _ => subU_snoc hxn i), h2.then F4 (fun i _ h _ => h)⟩
        have FIN := Lib.hid fin
        have hw : IntKind.i64.wrap (st.1 x - sh) = st.1 x - sh := by rw [IntKind.wrap_i64]; omega
        clear fin hnx hr
        gi_wp2
        gi_region
        all_goals
          gi_wp2
          exact FIN.out
      case done =>
        rintro D ys V hD rfl ⟨h1, h2⟩ hK
        have HF1 := Lib.hid (HFV.out.then h2 (fun i _ h _ => h))
        have HG1 := Lib.hid h1
        have HO1 := Lib.hid (ownsR_fr HOV.out h2 (fun g hg _ _ => by omega))
        have HM1 : Hid (MrkOk W0.heap.size (D :: Ds) V) := Lib.hid ((HMV.out.fr h2 (fun j hj _ _ h => by omega)).cons (fun D' hD' => (HMV.out.2 D' hD').2.1) hD (by omega) hK)
        have cs := h2.cell (p := ⟨w5.heap.size, 0, none⟩) (by dsimp only; omega) cs
        have hszV := h2.size
        clear HFV HGV HOV HMV HBV h1 h2 hK
        gi_wp2
        go_wp2_with (at_builtin; refine wpList_append_own _ rfl _ _ 39 rfl W0.heap.size 3 i0 (.int .i64 0) 1 8 Tryz.underlying39 hi hz0 hz1 hz2 rfl (by decide) _ _ _ rfl (HO1.out.alloc _) ⟨V.heap.size, 0, none⟩ 1 1 [.int .i64 sh] rfl rfl (World.news_of_block (cs := #[.int .i64 sh]) (t := 3) (fr := (0, 0)) (heap_alloc_new V _)) (by simp [Value.oneCell']) (by unfold maxLen; omega) (by omega) (by simp; omega) ?_; intro v' w1 hown' hgrow _)
        have hlt1 := HO1.out.lt
        have HF2 := Lib.hid ((HF1.out.alloc (.cells #[.int .i64 sh] 3)).grown hgrow (fun j e => .inr (by
          have := hlt1 j e
          have := HF1.out.size
          omega)))
        have HG2 := Lib.hid ((HG1.out.on ((Below.refl _ V).alloc (Nat.le_refl _) (.cells #[.int .i64 sh] 3))).same hgrow.size (hgrow.block Bl (by have := HG1.out.1; simp; omega) (fun e => by have := hlt1 Bl e.symm; omega)))
        have HM2 := Lib.hid ((HM1.out.on ((Below.refl _ V).alloc (Nat.le_refl _) (.cells #[.int .i64 sh] 3))).same hgrow.size (fun j _ hj q => hgrow.block j hj (fun e => by
          have h3 := hlt1 j e.symm
          refine ownBlock_cells HO1.out j e.symm ?_
          rw [← q]
          exact (Below.heap_alloc _ _ _ h3.2).symm)))
        have HO2 := Lib.hid hown'
        clear hown' hgrow hlt1
        go_wp2
        refine ⟨⟨k + 1, D :: Ds, v', _, _, _, _, _, _, _, _, _, _, _, _, _, _, _, _, _, ⟨by omega, HF2, by rw [HSt.out, HSd.out]; exact HG2, by rw [HSt.out, HSd.out, zvs_snoc]; exact HO2, HM2⟩, rfl⟩, ?_⟩
        simp [intOf]
        omega
      case stop =>
        rintro D c pre X hD hSp h hK
        exact h.elim
    · obtain rfl : k = L.length := by omega
      have HZ := HO.out
      rw [List.take_length] at HZ
      have hsl : (shN lf m gl L).2.length = L.length := by have := shN_len lf m gl L (gl, []); simpa [shN] using this
      have HOZ := Lib.hid HZ
      have HSL := Lib.hid hsl
      clear HZ hsl
      go_wp2
      refine leaves_mrk Ds _ HM.out.1 (fun D hD => (HM.out.2 D hD).2.2) fun W' hF' => ?_
      have HO2 := ownsR_fr HOZ.out hF' (fun g hg hgl ⟨o, ho, hc⟩ hm => by
        rw [(HM.out.2 g hm).2.2] at ho
        cases ho
        cases hc)
      refine ⟨_, results_tmp rfl _ _ _, ⟨_, rfl, ?_, HBW.out.trans (hF'.below HBW.out.size (fun j hj hm => by
        have := (HM.out.2 j hm).1
        have := HB0.out.size
        omega))⟩⟩
      rw [← HSL.out] at HO2
      rw [HLe.out]
      exact zat_of HO2
end Go.Proofs.YtkgfaemdgmmdkaaGreatDoor.Gx
