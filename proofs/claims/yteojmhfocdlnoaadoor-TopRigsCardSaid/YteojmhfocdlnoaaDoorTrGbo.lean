/- borne of the program. -/
import Derived.Test.YteojmhfocdlnoaaDoorTrGbn
import Derived.Test.YteojmhfocdlnoaaDoorTrGsh
namespace Go.Proofs.YteojmhfocdlnoaaDoor.Tr
open Go.Proofs.YteojmhfocdlnoaaDoor
open Go.RowKit Go.Shelf
attribute [local go_sem] Oper.semAt_some

theorem gxs_cells {W : World} {b off n : Nat} {g : Nat → Int} (h : GAt W (some ⟨b, off, none⟩) n g) : ∀ j u, (gxs g n)[j]? = some u → W.cell? ((⟨b, off, none⟩ : Addr).add j) = some u := fun j u hu => by
  have hj : j < n := by
    have := (List.getElem?_eq_some_iff.1 hu).1
    rwa [gxs_len] at this
  rw [gxs_get hj] at hu
  cases hu
  obtain ⟨b', off', e, _, c⟩ := h j hj
  cases e
  rw [Go.WideShapes.add_plain]
  exact c
theorem gxs_one (g : Nat → Int) (n : Nat) : ∀ u ∈ gxs g n, u.oneCell' = true := fun u hu => by
  unfold gxs at hu
  obtain ⟨i, _, rfl⟩ := List.mem_map.1 hu
  rfl
theorem made_gxs (m : Nat) : (madeCells #[.int .i64 0] (m * 1)).toList = gxs (fun _ => 0) m := by
  unfold madeCells gxs
  rw [Nat.mul_one]
  apply List.ext_getElem?
  intro i
  simp only [Array.toList_map, Array.toList_range, List.getElem?_map]
  by_cases hi : i < m
  · rw [List.getElem?_range (by omega)]
    simp [Nat.mod_one]
  · rw [List.getElem?_eq_none (by simp; omega)]
    rfl
theorem grw_made (W : World) (m : Nat) (hm : m ≤ 1000) : GRw (W.alloc (.cells (madeCells #[.int .i64 0] m) 3)) W.heap.size m (fun _ => 0) := by
  have := World.ownsRow_lit (base := W.heap.size) (size := 1) (e := 3) W (madeCells #[.int .i64 0] (m * 1)) m (Nat.le_refl _) (by unfold maxLen; omega) (by simp [madeCells])
  rw [made_gxs, Nat.mul_one] at this
  rcases Nat.eq_zero_or_pos m with rfl | h0
  · exact ⟨by simp, fun k hk => by omega⟩
  · obtain ⟨b, cap, e, h1, h2⟩ := grw_of this h0
    cases e
    exact h2
set_option maxRecDepth 100000 in
set_option maxHeartbeats 1000000 in
theorem cloneN_any (b off cap n : Nat) (g : Nat → Int) (w : World) (h1 : 1 ≤ n) (hn : n ≤ 1000) (hc : GAt w (some ⟨b, off, none⟩) n g) :
    Calls Tryd.prog 41 #[.slice (some ⟨b, off, none⟩) n cap] w fun e w' => (∃ b' c', e = .returned (.slice (some ⟨b', 0, none⟩) n c') ∧ w.heap.size ≤ b' ∧ GRw w' b' n g) ∧ Below w.heap.size w w' := by
  have HC : Hid (GAt (w.alloc (.cells #[] 3)) (some ⟨b, off, none⟩) n g) := Lib.hid (hc.on ((Below.refl _ w).alloc (Nat.le_refl _) _))
  clear hc
  obtain ⟨i0, hi, hz0, hz1, hz2⟩ := info_parts intInfo7
  have hnil := fun (w : World) => Lib.run_eql_slice_nil (P := Tryd.prog) w 26 3 (some ⟨b, off, none⟩) n cap 0 0 Tryd.underlying26
  go_enter Tryd.func41, Tryd.ntmps41
  go_wp2_with (at_builtin; refine wpList_append_own _ rfl _ _ 26 rfl w.heap.size 3 i0 (.int .i64 0) 1 8 Tryd.underlying26 hi hz0 hz1 hz2 rfl (by decide) _ 0 [] rfl (World.ownsRow_lit w #[] 0 (Nat.le_refl _) (by unfold maxLen; omega) rfl) ⟨b, off, none⟩ n cap (gxs g n) rfl (by rw [gxs_len, Nat.mul_one]) (gxs_cells HC.out) (gxs_one g n) (by unfold maxLen; omega) (by omega) (by simp) ?_; intro v' w1 hown' hgrow _)
  have hb1 : Below w.heap.size w w1 := ((Below.refl w.heap.size w).alloc (Nat.le_refl _) (.cells #[] 3)).grown hgrow (by simp) (fun j e => by cases e; exact Nat.le_refl _)
  simp only [Nat.zero_add, List.nil_append] at hown'
  obtain ⟨b', c', rfl, q1, q2⟩ := grw_of hown' h1
  have HO := Lib.hid (And.intro q1 q2)
  have HB := Lib.hid hb1
  clear hown' hgrow hb1 q1 q2
  go_wp2
  go_ret
  exact ⟨⟨_, _, rfl, HO.out⟩, HB.out⟩
/-- The numbers when the first t links are reckoned. -/
def btN (lf : Nat → Int) (m : Nat) (ow : Nat → Int) (t : Nat) : Nat → Int := fun x => if x < t then boN lf m ow x else ow x
theorem GRw.congr {W : World} {B m : Nat} {g g' : Nat → Int} (h : GRw W B m g) (e : ∀ k, k < m → g k = g' k) : GRw W B m g' := ⟨h.1, fun k hk => by rw [← e k hk]; exact h.2 k hk⟩
open Classical in
/-- The error of loads. -/
noncomputable def brE (n : Nat) (lo : Nat → Int) (K : Nat) : Int := if n = K then (if LdOk n lo then 0 else 7) else 9
/-- What borne answers. -/
def BrA (m n : Nat) (lf lo : Nat → Int) (c : Int) (W : World) (e : Ending) : Prop :=
  (c ≠ 0 ∧ e = .returned (.tuple #[.slice none 0 0, .int .i64 c])) ∨ (c = 0 ∧ n = (thN (enB m lf) m).length ∧ LdOk n lo ∧ ∃ a' c', e = .returned (.tuple #[.slice a' m c', .int .i64 0]) ∧ GAt W a' m (boN lf m (owN lo (thN (enB m lf) m) n)))
set_option maxRecDepth 100000 in
set_option maxHeartbeats 8000000 in
theorem borne_any (al : Option Addr) (m capl : Nat) (lm : Nat → List UInt8) (lf : Nat → Int) (iv : Value) (aq : Option Addr) (nq cq : Nat) (lo : Nat → Int) (w : World) (hL : LkAt w al m lm lf) (hQ : GAt w aq nq lo) (hm : m ≤ 1000) (hm1 : 1 ≤ m) (hv : ∀ k, k < m → lf k < k ∧ -1 ≤ lf k) (hnq : nq ≤ 1000) :
    Calls Tryd.prog 30 #[.agg #[.slice al m capl, iv], .slice aq nq cq] w fun e w' => BrA m nq lf lo (brE nq lo (thN (enB m lf) m).length) w' e ∧ Below w.heap.size w w' := by
  have HEn := Lib.hid (fun W (hW : Below w.heap.size w W) => ends_any al m capl iv lm lf W (hL.on hW) hm hv)
  have HL := Lib.hid hL
  have HQ := Lib.hid hQ
  have HV := Lib.hid hv
  have hmI : (m : Int) ≤ 1000 := by omega
  have hnI : (nq : Int) ≤ 1000 := by omega
  have hab := lk_block hL
  clear hL hQ hv
  refine (callsIn_wide (n := 6)).1 ?_
  refine callsIn_of_wp_marks Tryd.func30 rfl trivial ?_ rfl
  simp only [Tryd.ntmps30, List.size_toArray, List.length_cons, List.length_nil, Nat.reduceAdd, Nat.reduceSub, Array.replicate_succ, Array.replicate_zero, List.push_toArray, List.append_toArray, List.nil_append, List.cons_append]
  refine wpIn_wide.2 ?_
  go_wp2_with fail
  refine (HEn.out _ ((Below.refl _ w).alloc (Nat.le_refl _) _)).mono ?_
  rintro e w2 ⟨v, rfl, hO, hb2⟩
  obtain ⟨ae, ce, rfl, hen⟩ := nat_of hO
  have HFar := Lib.hid (owns_far hO)
  have hB2 : Below w.heap.size w w2 := ((Below.refl w.heap.size w).alloc (Nat.le_refl _) (.cells #[.slice al m capl, iv] 44)).trans (hb2.mono (by simp))
  have r0 : w2.cell? ⟨w.heap.size, 0, none⟩ = some (.slice al m capl) := (hb2.cell (p := ⟨w.heap.size, 0, none⟩) (by simp)).trans (by simp [go_sem])
  have r1 : w2.cell? ⟨w.heap.size, 1, none⟩ = some iv := (hb2.cell (p := ⟨w.heap.size, 1, none⟩) (by simp)).trans (by simp [go_sem])
  have hs2 := hb2.size
  simp at hs2
  have HB2 := Lib.hid hB2
  have HEN := Lib.hid hen
  have HLen := Lib.hid (thN_len (enB m lf) m)
  have HMem : Hid (∀ e ∈ thN (enB m lf) m, e < m) := Lib.hid (fun e he => by unfold thN at he; exact List.mem_range.1 (List.mem_filter.1 he).1)
  have HNd := Lib.hid (thN_nodup (enB m lf) m)
  clear hO hb2 hB2 hen HEn
  generalize hLe : thN (enB m lf) m = E at *
  have HLe := Lib.hid hLe
  have hEI : ((E.length : Nat) : Int) ≤ 1000 := by have := HLen.out; omega
  clear hLe
  by_cases hneq : nq = E.length
  · have hnn : ((nq : Int) != ((E.length : Nat) : Int)) = false := by simp [hneq]
    obtain ⟨i0, hi, hz0, hz1, hz2⟩ := info_parts intInfo7
    have hmk := fun w' => run_make (P := Tryd.prog) w' 26 3 i0 _ Tryd.underlying26 hi hz0 .i64 .i64 (m : Int) (m : Int) (by omega) (by omega) (by rw [hz2]; omega) (by omega)
    rw [hz1] at hmk
    simp only [Int.toNat_natCast] at hmk
    have HEq := Lib.hid hneq
    clear hneq
    go_wp2
    clear hmk
    have G0 := ((grw_made w2 m hm).on ((Below.refl _ (w2.alloc (.cells (madeCells #[.int .i64 0] m) 3))).alloc (Nat.le_refl _) (.cells #[.slice (some ⟨w2.heap.size, 0, none⟩) m m] 26)))
    have f23 : Below w2.heap.size w2 ((w2.alloc (.cells (madeCells #[.int .i64 0] m) 3)).alloc (.cells #[.slice (some ⟨w2.heap.size, 0, none⟩) m m] 26)) := by (repeat' (first | (with_reducible exact Below.refl _ _) | (with_reducible assumption) | (with_reducible refine Below.alloc ?_ ?_ _) | (with_reducible refine Below.drew ?_) | (with_reducible refine below_drewN ?_ _) | (with_reducible refine Below.setCell ?_ ?_ _) | (with_reducible refine below_after ?_ ?_ _) | (with_reducible refine below_set ?_) | (with_reducible refine After.size_le _ ?_) | (with_reducible refine size_alloc_le ?_) | (with_reducible refine size_set_le ?_) | (with_reducible refine size_drewN_le ?_) | go_size))
    have c7 : ((w2.alloc (.cells (madeCells #[.int .i64 0] m) 3)).alloc (.cells #[.slice (some ⟨w2.heap.size, 0, none⟩) m m] 26)).cell? ⟨w2.heap.size + 1, 0, none⟩ = some (.slice (some ⟨w2.heap.size, 0, none⟩) m m) := by simp [go_sem]
    have es : ((w2.alloc (.cells (madeCells #[.int .i64 0] m) 3)).alloc (.cells #[.slice (some ⟨w2.heap.size, 0, none⟩) m m] 26)).heap.size = w2.heap.size + 2 := by simp
    have HG0 := Lib.hid G0
    clear G0
    generalize (w2.alloc (.cells (madeCells #[.int .i64 0] m) 3)).alloc (.cells #[.slice (some ⟨w2.heap.size, 0, none⟩) m m] 26) = W3 at *
    have HB3 := Lib.hid (HB2.out.trans (f23.mono HB2.out.size))
    have r0 := (f23.cell (p := ⟨w.heap.size, 0, none⟩) (by dsimp only; omega)).trans r0
    have r1 := (f23.cell (p := ⟨w.heap.size, 1, none⟩) (by dsimp only; omega)).trans r1
    have HE3 : Hid (∀ i, i < E.length → ∃ b off, ae = some ⟨b, off, none⟩ ∧ b < w2.heap.size ∧ W3.cell? ⟨b, off + i, none⟩ = some (.int .i64 (E.getD i 0 : Nat))) := Lib.hid (fun i hi => by
      obtain ⟨b, off, e1, e2, e3⟩ := HEN.out i hi
      exact ⟨b, off, e1, e2, (f23.cell (p := ⟨b, off + i, none⟩) e2).trans e3⟩)
    clear f23 HEN
    go_loopw [26] (fun i W => ∃ k : Nat, k ≤ nq ∧ i = .int .i64 k ∧ Hid (LdOk k lo) ∧ Hid (GRw W w2.heap.size m (owN lo E k)) ∧ Hid (Fr (fun j => j = w2.heap.size) W3 W)) (fun i _ => nq - (intOf i).toNat)
    case atStart => exact ⟨0, Nat.zero_le _, rfl, Lib.hid (fun i hi => by omega), HG0, Lib.hid (Fr.refl _)⟩
    case round =>
      obtain ⟨k, hk, rfl, HLd, HG, HF⟩ := hrel
      have HBW := Lib.hid (HB3.out.trans (HF.out.below HB3.out.size (fun j hj => by omega)))
      by_cases hlt : k < nq
      · have hltI : (k : Int) < (nq : Int) := by omega
        obtain ⟨bq, offq, rfl, hbq, q0⟩ := (HQ.out.on HBW.out) k hlt
        by_cases hok : Btw (lo k) 0 1000000
        · have HD := Lib.hid (fun W => between_b (lo k) 0 1000000 W (decide_eq_true hok))
          obtain ⟨be, offe, rfl, hbe, e0⟩ := HE3.out k (by rw [← HEq.out]; exact hlt)
          have e0 := HF.out.cell (p := ⟨be, offe + k, none⟩) (by dsimp only; omega) e0
          have c7 := HF.out.cell (p := ⟨w2.heap.size + 1, 0, none⟩) (by dsimp only; omega) c7
          have hkE : (k : Int) < ((E.length : Nat) : Int) := by have := HEq.out; omega
          have hem : E.getD k 0 < m := HMem.out _ (by rw [List.getD_eq_getElem?_getD, List.getElem?_eq_getElem (by have := HEq.out; omega)]; exact List.getElem_mem _)
          have hemI : ((E.getD k 0 : Nat) : Int) < (m : Int) := by omega
          have HOw := Lib.hid (show owN lo E (k + 1) = updF (owN lo E k) (E.getD k 0) (lo k) from rfl)
          obtain ⟨d0, d1⟩ := HG.out.2 _ hem
          generalize E.getD k 0 = en at *
          generalize owN lo E k = ow at *
          have FIN : Hid (GRw (wr.setCell ⟨w2.heap.size, en, none⟩ (.int .i64 (lo k))).drew w2.heap.size m (updF ow en (lo k)) ∧ Fr (fun j => j = w2.heap.size) W3 (wr.setCell ⟨w2.heap.size, en, none⟩ (.int .i64 (lo k))).drew) := Lib.hid ⟨HG.out.set (lo k) (fun i _ => rfl), (HF.out.then (Fr.setCell (M := fun j => j = w2.heap.size) (Fr.refl wr) (p := ⟨w2.heap.size, en, none⟩) (.inl rfl) _) (fun _ _ h _ => h)).drew⟩
          have HLd2 : Hid (LdOk (k + 1) lo) := Lib.hid (fun i hi => by
            by_cases e : i = k
            · subst e; exact hok
            · exact HLd.out i (by omega))
          clear hok HG HF HLd
          go_wp2_with (go_at_call 23; refine (HD.out _).mono ?_; rintro e w9 ⟨rfl, rfl⟩)
          go_region
          all_goals
            go_wp2
            go_roundw
            case rel => exact ⟨k + 1, by omega, by go_num, HLd2, by rw [HOw.out]; exact FIN.out.1, FIN.out.2⟩
            case measure => simp [intOf]; omega
        · have HD := Lib.hid (fun W => between_b (lo k) 0 1000000 W (decide_eq_false hok))
          have HE : Hid (brE nq lo E.length = 7) := Lib.hid (by unfold brE; rw [if_pos HEq.out, if_neg (fun h => hok (h k hlt))])
          clear hok
          go_wp2_with (go_at_call 23; refine (HD.out _).mono ?_; rintro e w9 ⟨rfl, rfl⟩)
          change LeavesInM _ _ _ _ _ _ [] .returning _
          refine ⟨_, results_tmp2 rfl _ _ _, ⟨?_, HBW.out⟩⟩
          rw [HLe.out, HE.out]
          exact .inl ⟨by decide, rfl⟩
      · obtain rfl : k = nq := by omega
        have c7 := HF.out.cell (p := ⟨w2.heap.size + 1, 0, none⟩) (by dsimp only; omega) c7
        have HC := Lib.hid (cloneN_any w2.heap.size 0 m m (owN lo E k) wr hm1 hm HG.out.at)
        have r0 := HF.out.cell (p := ⟨w.heap.size, 0, none⟩) (by dsimp only; omega) r0
        have r1 := HF.out.cell (p := ⟨w.heap.size, 1, none⟩) (by dsimp only; omega) r1
        have hs3 := HF.out.size
        clear HE3 HG0 HB3 HF HQ HFar
        go_wp2_with fail
        refine HC.out.mono ?_
        rintro e w5 ⟨⟨Bb, cb, rfl, hBb, hG5⟩, hb5⟩
        have HB5 := Lib.hid (HBW.out.trans (hb5.mono HBW.out.size))
        have HG5 := Lib.hid hG5
        have HO5 := Lib.hid (HG.out.on hb5)
        have c7 := (hb5.cell (p := ⟨w2.heap.size + 1, 0, none⟩) (World.block_lt_of_cell? wr _ c7)).trans c7
        have r0 := (hb5.cell (p := ⟨w.heap.size, 0, none⟩) (World.block_lt_of_cell? wr _ r0)).trans r0
        have r1 := (hb5.cell (p := ⟨w.heap.size, 1, none⟩) (World.block_lt_of_cell? wr _ r1)).trans r1
        have hs5 := hb5.size
        clear hb5 hG5 HC HG HBW
        have b56 : Below w5.heap.size w5 (w5.alloc (.cells #[.slice (some ⟨Bb, 0, none⟩) m cb] 26)) := (Below.refl _ w5).alloc (Nat.le_refl _) _
        have c10 : (w5.alloc (.cells #[.slice (some ⟨Bb, 0, none⟩) m cb] 26)).cell? ⟨w5.heap.size, 0, none⟩ = some (.slice (some ⟨Bb, 0, none⟩) m cb) := by simp [go_sem]
        have c7 := (b56.cell (p := ⟨w2.heap.size + 1, 0, none⟩) (World.block_lt_of_cell? w5 _ c7)).trans c7
        have r0 := (b56.cell (p := ⟨w.heap.size, 0, none⟩) (World.block_lt_of_cell? w5 _ r0)).trans r0
        have r1 := (b56.cell (p := ⟨w.heap.size, 1, none⟩) (World.block_lt_of_cell? w5 _ r1)).trans r1
        have HG6 := Lib.hid (HG5.out.on b56)
        have HO6 := Lib.hid (HO5.out.on b56)
        have HB6 := Lib.hid (HB5.out.trans (b56.mono HB5.out.size))
        have hsz6 : (w5.alloc (.cells #[.slice (some ⟨Bb, 0, none⟩) m cb] 26)).heap.size = w5.heap.size + 1 := by simp
        have hBb5 : Bb < w5.heap.size := HG5.out.1
        go_wp2
        generalize w5.alloc (.cells #[.slice (some ⟨Bb, 0, none⟩) m cb] 26) = W6 at *
        clear b56 HG5 HO5 HB5
        have HNd2 := Lib.hid (unL_nodup HV.out)
        have HMm := Lib.hid (unL_mem HV.out)
        have HOb : Hid (∀ x, x < m → 0 ≤ owN lo E k x ∧ owN lo E k x ≤ 1000000) := Lib.hid (fun x _ => owN_bd (fun j hj => HLd.out j (by rw [HEq.out]; exact hj)) k (by rw [← HEq.out]; exact Nat.le_refl _) x)
        have HL6 := Lib.hid (HL.out.on HB6.out)
        generalize hOw : owN lo E k = ow at *
        have HOw := Lib.hid hOw
        clear hOw
        have hBbO : Bb ≠ w2.heap.size := by omega
        refine wpIn_wide (n := 6).1 ?_
        refine wpIn_loop (fun a' V => ∃ (t : Nat) (Ds : List Nat) (x11 x47 x48 x49 x50 x51 x63 : Value), (t ≤ m ∧ Hid (GRw V Bb m (btN lf m ow t)) ∧ Hid (Fr (fun j => j = Bb) W6 V) ∧ Hid (MrkOk W6.heap.size Ds V)) ∧
          a' = { tmps := #[.agg #[.slice al m capl, iv], .slice aq k cq, .pointer (some ⟨w.heap.size, 0, none⟩), undef, u4, u5, .slice ae E.length ce, .pointer (some ⟨w2.heap.size + 1, 0, none⟩), u8, u9, .pointer (some ⟨w5.heap.size, 0, none⟩), x11, undef, .agg #[.slice al m capl, iv], .slice ae E.length ce, .slice aq k cq, .int .i64 (k : Nat), .slice ae E.length ce, .int .i64 (E.length : Nat), .bool false, .pointer (some ⟨w.heap.size, 0, none⟩), .slice al m capl, .int .i64 (m : Nat), .slice (some ⟨w2.heap.size, 0, none⟩) m m, .slice aq k cq, .int .i64 (k : Nat), .int .i64 (k : Nat), .bool false, u28, u29, u30, u31, u32, u33, u34, u35, u36, u37, u38, u39, u40, u41, .slice (some ⟨w2.heap.size, 0, none⟩) m m, .slice (some ⟨Bb, 0, none⟩) m cb, .slice (some ⟨Bb, 0, none⟩) m cb, .int .i64 (m : Nat), .int .i64 (t : Nat), x47, x48, x49, x50, x51, undef, undef, undef, undef, undef, undef, undef, undef, undef, undef, undef, x63, undef], defers := Ds.map mkD })
          (fun a' _ => m - (intOf (a'.tmps.getD 46 undef)).toNat) ?start ?round
        case start => exact ⟨0, [], _, _, _, _, _, _, _, ⟨Nat.zero_le _, Lib.hid (HG6.out.congr (fun x _ => by simp [btN])), Lib.hid (Fr.refl _), Lib.hid (MrkOk.nil _ _)⟩, rfl⟩
        case round =>
          rintro _ V ⟨t, Ds, x11, x47, x48, x49, x50, x51, x63, ⟨ht, HGt, HFt, HMt⟩, rfl⟩
          have hsV := HFt.out.size
          have r0 := HFt.out.cell (p := ⟨w.heap.size, 0, none⟩) (by dsimp only; omega) r0
          have r1 := HFt.out.cell (p := ⟨w.heap.size, 1, none⟩) (by dsimp only; omega) r1
          have c7 := HFt.out.cell (p := ⟨w2.heap.size + 1, 0, none⟩) (by dsimp only; omega) c7
          have c10 := HFt.out.cell (p := ⟨w5.heap.size, 0, none⟩) (by dsimp only; omega) c10
          have HOt := Lib.hid (HO6.out.fr HFt.out (fun h => hBbO h.symm))
          refine wpIn_wide.2 ?_
          by_cases hlt : t < m
          · have hltI : (t : Int) < (m : Int) := by omega
            have bV := ((Below.refl V.heap.size V).alloc (Nat.le_refl _) (.cells #[.int .i64 (t : Nat)] 3))
            have q0 := (bV.cell (p := ⟨w.heap.size, 0, none⟩) (World.block_lt_of_cell? V _ r0)).trans r0
            have q1 := (bV.cell (p := ⟨w.heap.size, 1, none⟩) (World.block_lt_of_cell? V _ r1)).trans r1
            have HUp := Lib.hid (fun X => under_mk (.slice al m capl) iv t X)
            clear bV
            go_wp2_with (go_at_call 42; refine (HUp.out _).mono ?_; rintro e w9 ⟨rfl, rfl⟩)
            obtain ⟨V0, hV0⟩ : ∃ V0, ((V.alloc (.cells #[.int .i64 (t : Nat)] 3)).alloc (.cells #[.slice al m capl, iv] 44)).alloc (.cells #[.int .i64 (t : Nat)] 3) = V0 := ⟨_, rfl⟩
            have bV : Below V.heap.size V V0 := by rw [← hV0]; (repeat' (first | (with_reducible exact Below.refl _ _) | (with_reducible assumption) | (with_reducible refine Below.alloc ?_ ?_ _) | (with_reducible refine Below.drew ?_) | (with_reducible refine below_drewN ?_ _) | (with_reducible refine Below.setCell ?_ ?_ _) | (with_reducible refine below_after ?_ ?_ _) | (with_reducible refine below_set ?_) | (with_reducible refine After.size_le _ ?_) | (with_reducible refine size_alloc_le ?_) | (with_reducible refine size_set_le ?_) | (with_reducible refine size_drewN_le ?_) | go_size))
            have es0 : V0.heap.size = V.heap.size + 3 := by rw [← hV0]; simp
            have cs : V0.cell? ⟨V.heap.size, 0, none⟩ = some (.int .i64 (t : Nat)) := by rw [← hV0]; simp [go_sem]
            have cf : V0.cell? ⟨V.heap.size + 1 + 1, 0, none⟩ = some (.int .i64 (t : Nat)) := by rw [← hV0]; simp [go_sem]
            have cr : V0.cell? ⟨V.heap.size + 1, 0, none⟩ = some (.slice al m capl) := by rw [← hV0]; simp [go_sem]
            have cr1 : V0.cell? ⟨V.heap.size + 1, 1, none⟩ = some iv := by rw [← hV0]; simp [go_sem]
            have c7 := (bV.cell (p := ⟨w2.heap.size + 1, 0, none⟩) (World.block_lt_of_cell? V _ c7)).trans c7
            have c10 := (bV.cell (p := ⟨w5.heap.size, 0, none⟩) (World.block_lt_of_cell? V _ c10)).trans c10
            have HFV := Lib.hid (HFt.out.call bV)
            have HGV := Lib.hid (HGt.out.on bV)
            have HOV := Lib.hid (HOt.out.on bV)
            have HMV := Lib.hid (HMt.out.on bV)
            have HLV := HL6.out.fr HFV.out (fun b off e h => by have := hab b off e h; omega)
            rw [hV0]
            clear hV0 q0 q1 HGt HOt HMt HFt HUp bV
            refine wpIn_wide (n := 6).1 ?_
            refine wpIn_rangeFunc_m rfl (fun h => by cases h) (gf := 50) (lb := #[.pointer (some ⟨V.heap.size + 1 + 1, 0, none⟩), .pointer (some ⟨V.heap.size + 1, 0, none⟩)]) rfl trivial (enters_of Tryd.func50 (by kernel_rfl) rfl)
              (M := fun j => j = Bb)
              (under1_m al m capl lm lf iv hm m t (by omega) hlt 5 (V.heap.size + 1 + 1) (V.heap.size + 1) _ V0 (fun j h => by omega) (by omega) (by omega) (fun b off e h0 h => by have := hab b off e h0; omega) cf cr cr1 HLV)
              (fun j h => by omega) (fun _ => rfl)
              (fun pre V => GRw V Bb m (updF (btN lf m ow t) t (ow t + (pre.map ow).sum)) ∧ Fr (fun j => j = Bb) V0 V)
              (fun c pre V => False)
              (fun pre A A' hs hf => ⟨hs.1.fr hf (fun h => by have := h.1; omega), hs.2.then hf (fun i hi _ _ h => by have := h.1; omega)⟩)
              (fun c pre A A' hs hf => hs)
              ⟨HGV.out.congr (fun x _ => by
                unfold updF
                by_cases e : x = t
                · subst e; simp [btN]
                · rw [if_neg e]), Fr.refl _⟩
              (fun x => { tmps := #[.agg #[.slice al m capl, iv], .slice aq k cq, .pointer (some ⟨w.heap.size, 0, none⟩), undef, u4, u5, .slice ae E.length ce, .pointer (some ⟨w2.heap.size + 1, 0, none⟩), u8, u9, .pointer (some ⟨w5.heap.size, 0, none⟩), .pointer (some ⟨V.heap.size, 0, none⟩), .int .i64 (x : Nat), .agg #[.slice al m capl, iv], .slice ae E.length ce, .slice aq k cq, .int .i64 (k : Nat), .slice ae E.length ce, .int .i64 (E.length : Nat), .bool false, .pointer (some ⟨w.heap.size, 0, none⟩), .slice al m capl, .int .i64 (m : Nat), .slice (some ⟨w2.heap.size, 0, none⟩) m m, .slice aq k cq, .int .i64 (k : Nat), .int .i64 (k : Nat), .bool false, u28, u29, u30, u31, u32, u33, u34, u35, u36, u37, u38, u39, u40, u41, .slice (some ⟨w2.heap.size, 0, none⟩) m m, .slice (some ⟨Bb, 0, none⟩) m cb, .slice (some ⟨Bb, 0, none⟩) m cb, .int .i64 (m : Nat), .int .i64 (t : Nat), .bool true, .int .i64 (t : Nat), .agg #[.slice al m capl, iv], .int .i64 (t : Nat), .func (.func 50) #[] #[.pointer (some ⟨V.heap.size + 1 + 1, 0, none⟩), .pointer (some ⟨V.heap.size + 1, 0, none⟩)], .int .i64 (x : Nat), undef, undef, undef, undef, undef, undef, undef, undef, undef, undef, x63, undef], defers := [] })
              ?assign ?body ?done ?stop
            case assign =>
              intro l' x V K hK
              gi_wp2
              exact hK
            case body =>
              rintro l' pre x X hl' ⟨rst, hnx⟩ ⟨h1, h2⟩ hsz
              have hmem : x ∈ unL lf m m t := by rw [hnx]; simp
              have hxm : x < m := ((HMm.out m t (by omega) hlt x).1 hmem).1
              have hxI : (x : Int) < (m : Int) := by omega
              have hnd := HNd2.out m t (by omega) hlt
              rw [hnx] at hnd
              have hpn : pre.Nodup := (List.nodup_append.1 hnd).1
              have hpm : ∀ y ∈ pre, y < m := fun y hy => ((HMm.out m t (by omega) hlt y).1 (by rw [hnx]; simp [hy])).1
              have hbd := up_len HOb.out (by omega) hpn hpm
              have hox := HOb.out x hxm
              have hot := HOb.out t hlt
              obtain ⟨d0, d1⟩ := h1.2 t hlt
              have et : updF (btN lf m ow t) t (ow t + (pre.map ow).sum) t = ow t + (pre.map ow).sum := by unfold updF; rw [if_pos rfl]
              rw [et] at d0
              obtain ⟨o0, _⟩ := (HOV.out.fr h2 (fun h => hBbO h.symm)).2 x hxm
              have c7 := h2.cell (p := ⟨w2.heap.size + 1, 0, none⟩) (by dsimp only; omega) c7
              have c10 := h2.cell (p := ⟨w5.heap.size, 0, none⟩) (by dsimp only; omega) c10
              have cs := h2.cell (p := ⟨V.heap.size, 0, none⟩) (by dsimp only; omega) cs
              have hm6 : (1000000 : Int) * (m : Int) ≤ 1000000000 := by omega
              have F4 : Fr (fun j => j = Bb) X (X.setCell ⟨Bb, t, none⟩ (.int .i64 (ow t + (pre.map ow).sum + ow x))).drew := (Fr.setCell (M := fun j => j = Bb) (Fr.refl X) (p := ⟨Bb, t, none⟩) (.inl rfl) _).drew
              have FIN : Hid (Fr (fun j => j = Bb) X (X.setCell ⟨Bb, t, none⟩ (.int .i64 (ow t + (pre.map ow).sum + ow x))).drew ∧ GRw (X.setCell ⟨Bb, t, none⟩ (.int .i64 (ow t + (pre.map ow).sum + ow x))).drew Bb m (updF (btN lf m ow t) t (ow t + ((pre ++ [x]).map ow).sum)) ∧ Fr (fun j => j = Bb) V0 (X.setCell ⟨Bb, t, none⟩ (.int .i64 (ow t + (pre.map ow).sum + ow x))).drew) := Lib.hid ⟨F4, h1.set (ow t + (pre.map ow).sum + ow x) (fun i _ => by
                unfold updF
                by_cases e : i = t
                · rw [if_pos e, if_pos e, List.map_append, List.sum_append]
                  simp only [List.map_cons, List.map_nil, List.sum_cons, List.sum_nil]
                  omega
                · rw [if_neg e, if_neg e, if_neg e]), h2.then F4 (fun _ _ h _ => h)⟩
              generalize (pre.map ow).sum = sm at *
              generalize ow x = ox at *
              generalize ow t = ot at *
              have hw : IntKind.i64.wrap (ot + sm + ox) = ot + sm + ox := by rw [IntKind.wrap_i64]; omega
              clear F4 hnx hnd hpn hpm hmem et h1
              dsimp only
              gi_wp2
              gi_region
              all_goals
                gi_wp2
                exact FIN.out
            case done =>
              rintro D ys X hD rfl ⟨h1, h2⟩ hK
              have HF1 := Lib.hid (HFV.out.then h2 (fun _ _ h _ => h))
              have HG1 : Hid (GRw X Bb m (btN lf m ow (t + 1))) := Lib.hid (h1.congr (fun x _ => by
                unfold updF btN boN
                by_cases e : x = t
                · subst e; rw [if_pos rfl, if_pos (by omega)]
                · rw [if_neg e]
                  by_cases e2 : x < t
                  · rw [if_pos e2, if_pos (by omega)]
                  · rw [if_neg e2, if_neg (by omega)]))
              have HM1 : Hid (MrkOk W6.heap.size (D :: Ds) X) := Lib.hid ((HMV.out.fr h2 (fun j hj _ _ h => by omega)).cons (fun D' hD' => (HMV.out.2 D' hD').2.1) hD (by omega) hK)
              clear h1 h2 hK HFV HGV HOV HMV
              gi_wp2
              go_wp2
              refine ⟨⟨t + 1, D :: Ds, _, _, _, _, _, _, _, ⟨by omega, HG1, HF1, HM1⟩, rfl⟩, ?_⟩
              simp [intOf]
              omega
            case stop =>
              rintro D c pre X hD hSp h hK
              exact h.elim
          · obtain rfl : t = m := by omega
            have HE : Hid (brE k lo E.length = 0) := Lib.hid (by unfold brE; rw [if_pos HEq.out, if_pos HLd.out])
            go_wp2
            change LeavesInM _ _ _ _ _ _ (Ds.map mkD) .returning _
            refine leaves_mrk Ds _ HMt.out.1 (fun D hD => (HMt.out.2 D hD).2.2) fun W' hF' => ?_
            refine ⟨_, results_tmp2 rfl _ _ _, ⟨?_, HB6.out.trans ((HFt.out.below HB6.out.size (fun j hj h => by omega)).trans (hF'.below (by have := HB6.out.size; omega) (fun j hj hm => by
              have := (HMt.out.2 j hm).1
              have := HB6.out.size
              omega)))⟩⟩
            rw [HLe.out, HE.out]
            refine .inr ⟨rfl, HEq.out.trans (by rw [HLe.out]), HLd.out, _, _, rfl, ?_⟩
            rw [HLe.out, HOw.out]
            exact ((HGt.out.fr hF' (fun hm => by have := (HMt.out.2 Bb hm).1; omega)).congr (g' := boN lf t ow) (fun x hx => by unfold btN; rw [if_pos hx])).at
  · have hnn : ((nq : Int) != ((E.length : Nat) : Int)) = true := by simp; omega
    have HE : Hid (brE nq lo E.length = 9) := Lib.hid (by unfold brE; rw [if_neg hneq])
    clear hneq
    go_wp2
    change LeavesInM _ _ _ _ _ _ [] .returning _
    refine ⟨_, results_tmp2 rfl _ _ _, ⟨?_, HB2.out⟩⟩
    rw [HLe.out, HE.out]
    exact .inl ⟨by decide, rfl⟩
end Go.Proofs.YteojmhfocdlnoaaDoor.Tr
