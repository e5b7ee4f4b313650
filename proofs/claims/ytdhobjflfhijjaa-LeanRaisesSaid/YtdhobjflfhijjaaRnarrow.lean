/- The narrowest strip as the reference finds it: the walk. -/
import Derived.Test.YtdhobjflfhijjaaStripc
namespace Go.Proofs.Ytdhobjflfhijjaa
open Go.RowKit
attribute [local go_sem] After.cell After.frozen After.lt After.le After.ne After.ne' After.set_eq After.size_set After.lt_add

/-- What the reference's loops keep: below w nothing turns; the result's block, the best strip's. -/
structure NwS (ps : List (Int × Int)) (w : World) (L : List (Nat × Nat)) (W : World) : Prop where
  below : Below w.heap.size w W
  res : Four W w.heap.size 0 0 0 0
  best : Four W (w.heap.size + 1) (nwTo ps L).1 (nwTo ps L).2.1 (nwTo ps L).2.2.1 (nwTo ps L).2.2.2
theorem NwS.after {ps : List (Int × Int)} {w : World} {L : List (Nat × Nat)} {W W' : World} {N : Nat} (h : NwS ps w L W) (hb : Below N W W') (hN : w.heap.size + 1 < N) : NwS ps w L W' :=
  ⟨h.below.trans (hb.mono (by omega)), h.res.below hb (by omega), h.best.below hb hN⟩
/-- What the innermost loop keeps: the new strip's block. -/
structure InS (W1 : World) (S : Nat) (bb dd lo hi : Int) (W : World) : Prop where
  below : Below S W1 W
  four : Four W S bb dd lo hi
theorem InS.after {W1 W W' : World} {S : Nat} {bb dd lo hi : Int} (h : InS W1 S bb dd lo hi W) (y : After W) (e : W' = y.w) : InS W1 S bb dd lo hi W' := by
  subst e
  exact ⟨h.below.trans (y.out.mono (Nat.le_of_lt h.four.lt)), h.four.below y.out h.four.lt⟩
theorem InS.lo {W1 W : World} {S : Nat} {bb dd lo hi : Int} (h : InS W1 S bb dd lo hi W) (v : Int) : InS W1 S bb dd v hi (W.setCell ⟨S, 2, none⟩ (.int .i64 v)) :=
  ⟨h.below.setCell (Nat.le_refl _) _, h.four.set2 v⟩
theorem InS.hi {W1 W : World} {S : Nat} {bb dd lo hi : Int} (h : InS W1 S bb dd lo hi W) (v : Int) : InS W1 S bb dd lo v (W.setCell ⟨S, 3, none⟩ (.int .i64 v)) :=
  ⟨h.below.setCell (Nat.le_refl _) _, h.four.set3 v⟩

theorem NwS.keep {ps : List (Int × Int)} {w W : World} {L : List (Nat × Nat)} {x : Nat × Nat} (h : NwS ps w L W) (e : nwTo ps (L ++ [x]) = nwTo ps L) : NwS ps w (L ++ [x]) W :=
  ⟨h.below, h.res, by rw [e]; exact h.best⟩
theorem NwS.put {ps : List (Int × Int)} {w W : World} {L : List (Nat × Nat)} {x : Nat × Nat} (h : NwS ps w L W) {a b c d : Int} (e : nwTo ps (L ++ [x]) = (a, b, c, d)) :
    NwS ps w (L ++ [x]) ((((W.setCell ⟨w.heap.size + 1, 0, none⟩ (.int .i64 a)).setCell ⟨w.heap.size + 1, 1, none⟩ (.int .i64 b)).setCell ⟨w.heap.size + 1, 2, none⟩ (.int .i64 c)).setCell ⟨w.heap.size + 1, 3, none⟩ (.int .i64 d)) :=
  ⟨(((h.below.setCell (Nat.le_succ _) _).setCell (Nat.le_succ _) _).setCell (Nat.le_succ _) _).setCell (Nat.le_succ _) _,
   (((h.res.other (by omega)).other (by omega)).other (by omega)).other (by omega), by rw [e]; exact h.best.all _ _ _ _⟩

theorem loTo_put {f : Nat → Int} {n : Nat} (h : n = 0 ∨ f n < loTo f n) : f n = loTo f (n + 1) := by unfold loTo; rw [if_pos h]
theorem loTo_keep {f : Nat → Int} {n : Nat} (h0 : n ≠ 0) (h : ¬ f n < loTo f n) : loTo f n = loTo f (n + 1) := by rw [loTo]; rw [if_neg (by omega)]
theorem hiTo_put {f : Nat → Int} {n : Nat} (h : n = 0 ∨ hiTo f n < f n) : f n = hiTo f (n + 1) := by unfold hiTo; rw [if_pos h]
theorem hiTo_keep {f : Nat → Int} {n : Nat} (h0 : n ≠ 0) (h : ¬ hiTo f n < f n) : hiTo f n = hiTo f (n + 1) := by rw [hiTo]; rw [if_neg (by omega)]

def strF (ps : List (Int × Int)) (x : Nat × Nat) (s : Nat) : Int := alV (prB ps x) (prD ps x) (ps.getD s (0, 0))


set_option maxRecDepth 100000 in
set_option maxHeartbeats 4000000 in
theorem rnarrow_any (b off cap : Nat) (ps : List (Int × Int)) (w : World) (hb : b < w.heap.size)
    (hc : ∀ i, i < ps.length → w.cell? ⟨b, off + i * 2, none⟩ = some (.int .i64 (ps.getD i (0, 0)).1) ∧ w.cell? ⟨b, off + i * 2 + 1, none⟩ = some (.int .i64 (ps.getD i (0, 0)).2))
    (hG : GoodPts ps) (h2 : 2 ≤ ps.length) :
    Calls Try.prog 86 #[.slice (some ⟨b, off, none⟩) ps.length cap] w fun e w' => e = .returned (.agg #[.int .i64 (prB ps (bestPr ps)), .int .i64 (prD ps (bestPr ps)), .int .i64 (prLo ps (bestPr ps)), .int .i64 (prHi ps (bestPr ps))]) ∧ Below w.heap.size w w' := by
  have HC : Hid (∀ W, Below w.heap.size w W → _) := fun W hW => cells_on hb hc hW
  have HG := Lib.hid hG
  have hl40 := hG.2.1
  clear hc hG
  go_enter Try.func86, Try.ntmps86
  go_wp2
  go_loopw [4] (fun i wr => ∃ a : Nat, a ≤ ps.length ∧ i = .int .i64 a ∧ NwS ps w (prsI ps.length a) wr) (fun i _ => ps.length - (intOf i).toNat)
  case atStart =>
    exact ⟨0, by omega, rfl, ((Below.refl _ _).alloc (Nat.le_refl _) _).alloc (by simp) _, ⟨by simp only [World.size_alloc]; omega, fun o => by simp [go_sem], by simp [go_sem], by simp [go_sem], by simp [go_sem], by simp [go_sem]⟩, ⟨by simp, fun o => by simp [go_sem], by simp [go_sem, nwTo, prsI], by simp [go_sem, nwTo, prsI], by simp [go_sem, nwTo, prsI], by simp [go_sem, nwTo, prsI]⟩⟩
  case round =>
    obtain ⟨a, ha, rfl, hN⟩ := hrel
    have HN := Lib.hid hN
    clear hN
    by_cases hlt : a < ps.length
    · obtain ⟨wo, rfl⟩ : ∃ wo : World, wo = wr := ⟨_, rfl⟩
      go_wp2
      go_loopw [5] (fun j wr => ∃ c : Nat, a + 1 ≤ c ∧ c ≤ ps.length ∧ j = .int .i64 c ∧ NwS ps w (prsI ps.length a ++ prsK a c) wr) (fun j _ => ps.length - (intOf j).toNat)
      case atStart => exact ⟨a + 1, by omega, by omega, by go_num, by rw [prsK_nil, List.append_nil]; exact HN.out⟩
      case round =>
        obtain ⟨c, hc0, hc1, rfl, hM⟩ := hrel
        have HM := Lib.hid hM
        clear hM HN
        by_cases hltc : c < ps.length
        · obtain ⟨wp, rfl⟩ : ∃ wp : World, wp = wr := ⟨_, rfl⟩
          have hx : (a, c) ∈ prs ps.length := prs_mem.2 ⟨by dsimp only; omega, hltc⟩
          obtain ⟨p1, p2⟩ := HC.out wp HM.out.below a hlt
          obtain ⟨q1, q2⟩ := HC.out wp HM.out.below c hltc
          have i1 := goodPts_at HG.out a hlt
          have i2 := goodPts_at HG.out c hltc
          have hbx := pr_bd HG.out hx
          have HB : Hid (prB ps (a, c) = (ps.getD c (0, 0)).2 - (ps.getD a (0, 0)).2 ∧ prD ps (a, c) = (ps.getD c (0, 0)).1 - (ps.getD a (0, 0)).1) := ⟨rfl, rfl⟩
          unfold InPt at i1 i2
          obtain ⟨i3, i4, i5, i6⟩ := i1
          obtain ⟨i7, i8, i9, i10⟩ := i2
          generalize ps.getD a (0, 0) = P at *
          generalize ps.getD c (0, 0) = Q at *
          obtain ⟨ph, px⟩ := P
          obtain ⟨qh, qx⟩ := Q
          dsimp only at *
          have l1 : (a : Int) < (ps.length : Int) := by omega
          have l2 : (c : Int) < (ps.length : Int) := by omega
          have hb2 : b < wp.heap.size := Nat.lt_of_lt_of_le hb HM.out.below.size
          have hz2 : w.heap.size + 1 < wp.heap.size := HM.out.best.lt
          go_wp2
          have HX : Hid (∀ s, s < ps.length → ∃ m1 m2, IntKind.i64.wrap ((ps.getD s (0, 0)).2 * prD ps (a, c)) = m1 ∧ IntKind.i64.wrap (prB ps (a, c) * (ps.getD s (0, 0)).1) = m2 ∧ IntKind.i64.wrap (m1 - m2) = strF ps (a, c) s) := fun s hs => by
            have hI := goodPts_at HG.out s hs
            unfold strF
            generalize ps.getD s (0, 0) = R at *
            unfold InPt at hI
            have k1 := prod_bd (a := R.2) (b := prD ps (a, c)) (A := 10000) (B := 200000) (by omega) (by omega) (by omega) (by omega)
            have k2 := prod_bd (a := prB ps (a, c)) (b := R.1) (A := 20000) (B := 200000) (by omega) (by omega) (by omega) (by omega)
            exact ⟨R.2 * prD ps (a, c), prB ps (a, c) * R.1, IntWalk.i64_in _ (by omega), IntWalk.i64_in _ (by omega), IntWalk.i64_in _ (by omega)⟩
          have HV := Lib.hid (pr_val HG.out hx)
          have HD := Lib.hid hbx
          have HL : Hid (prLo ps (a, c) = loTo (strF ps (a, c)) ps.length ∧ prHi ps (a, c) = hiTo (strF ps (a, c)) ps.length) := ⟨rfl, rfl⟩
          have HS : Hid (nwTo ps ((prsI ps.length a ++ prsK a c) ++ [(a, c)]) = stStep ps (nwTo ps (prsI ps.length a ++ prsK a c)) (a, c)) := nwTo_snoc _ _ _
          have HT : Hid (∀ st, stStep ps st (a, c) = if st.2.1 = 0 ∨ (prHi ps (a, c) - prLo ps (a, c)) * st.2.1 < (st.2.2.2 - st.2.2.1) * prD ps (a, c) then (prB ps (a, c), prD ps (a, c), prLo ps (a, c), prHi ps (a, c)) else st) := fun _ => rfl
          have HE := Lib.hid (nwTo_bd HG.out (L := prsI ps.length a ++ prsK a c) (fun x hx => (List.mem_append.1 hx).elim (fun h => prsI_sub (by omega) h) (fun h => prsK_sub hlt (by omega) h)))
          clear hx hbx
          have e1 : IntKind.i64.wrap (qx - px) = prB ps (a, c) := by rw [HB.out.1]; exact IntWalk.i64_in _ (by omega)
          have e2 : IntKind.i64.wrap (qh - ph) = prD ps (a, c) := by rw [HB.out.2]; exact IntWalk.i64_in _ (by omega)
          clear HB
          generalize strF ps (a, c) = f at *
          generalize prLo ps (a, c) = LO at *
          generalize prHi ps (a, c) = HI at *
          generalize prB ps (a, c) = BB at *
          generalize prD ps (a, c) = DD at *
          go_region_held3 (fun w' => wp.heap.size ≤ w'.heap.size ∧ ∀ p : Addr, p.block < wp.heap.size → w'.cell? p = wp.cell? p)
            (first | exact kept_drew wp | exact kept_alloc (by assumption) | exact kept_alloc (kept_drew wp) | exact kept_set (by assumption) (by simp)) (fail)
          clear e1 e2
          go_wp2
          obtain ⟨W1, hW1⟩ : ∃ W1, (wp.alloc (Obj.cells #[.int .i64 BB, .int .i64 DD, .int .i64 0, .int .i64 0] 102)).drew = W1 := ⟨_, rfl⟩
          have hBl : Below wp.heap.size wp W1 := by rw [← hW1]; (repeat' (first | (with_reducible exact Below.refl _ _) | (with_reducible assumption) | (with_reducible refine Below.alloc ?_ ?_ _) | (with_reducible refine Below.drew ?_) | (with_reducible refine below_drewN ?_ _) | (with_reducible refine Below.setCell ?_ ?_ _) | (with_reducible refine below_after ?_ ?_ _) | (with_reducible refine below_set ?_) | (with_reducible refine After.size_le _ ?_) | (with_reducible refine size_alloc_le ?_) | (with_reducible refine size_set_le ?_) | (with_reducible refine size_drewN_le ?_) | go_size))
          have HBl := Lib.hid hBl
          clear hBl
          have HI0 : Hid (Four W1 wp.heap.size BB DD 0 0) := by rw [← hW1]; exact ⟨by simp, fun o => by simp [go_sem], by simp [go_sem], by simp [go_sem], by simp [go_sem], by simp [go_sem]⟩
          rw [hW1]
          clear hW1
          have HM1 : Hid (NwS ps w (prsI ps.length a ++ prsK a c) W1) := HM.out.after HBl.out HM.out.best.lt
          go_loopw [7] (fun n wr => ∃ s : Nat, s ≤ ps.length ∧ n = .int .i64 s ∧ InS W1 wp.heap.size BB DD (loTo f s) (hiTo f s) wr) (fun n _ => ps.length - (intOf n).toNat)
          case atStart => exact ⟨0, by omega, rfl, Below.refl _ _, HI0.out⟩
          case round =>
            obtain ⟨s, hs, rfl, hI⟩ := hrel
            have HI := Lib.hid hI
            have HNW : Hid (NwS ps w (prsI ps.length a ++ prsK a c) wr) := HM1.out.after hI.below HM.out.best.lt
            obtain ⟨hsz, fz, f0, f1, f2, f3⟩ := hI.four
            clear hI
            have hbr : b < wr.heap.size := by omega
            have hzr : w.heap.size + 1 < wr.heap.size := by omega
            by_cases hlts : s < ps.length
            · obtain ⟨c1, c2⟩ := HC.out wr HNW.out.below s hlts
              obtain ⟨m1, m2, x1, x2, x3⟩ := HX.out s hlts
              have HLo : Hid (loTo f (s + 1) = if s = 0 ∨ f s < loTo f s then f s else loTo f s) := rfl
              have HHi : Hid (hiTo f (s + 1) = if s = 0 ∨ hiTo f s < f s then f s else hiTo f s) := rfl
              have l3 : (s : Int) < (ps.length : Int) := by omega
              clear HNW HX
              generalize ps.getD s (0, 0) = R at *
              obtain ⟨rh, rx⟩ := R
              dsimp only at *
              generalize loTo f s = lo at *
              generalize hiTo f s = hi at *
              generalize f s = v at *
              by_cases hs0 : s = 0
              · have e0 : ((s : Int) == 0) = true := by simp [hs0]
                have HS0 := Lib.hid hs0
                clear hs0
                go_wp2
                refine wp_region_after (by kernel_rfl) (by kernel_rfl) ?_; (repeat (first | go_big_quiet_step ((fail)) | (refine wpQuiet_step (fun K hK => ?_); go_simp; first | (refine hK _ ?_; clear hK K) | (apply Exists.intro; refine ⟨fun x => ?_, hK _ ?_⟩; (fail); clear hK K)))); refine wpQuiet_nil ?_
                intro y
                go_wp2
                go_roundw
                case rel => exact ⟨s + 1, by omega, by go_num, by rw [HLo.out, HHi.out, if_pos (.inl HS0.out), if_pos (.inl HS0.out)]; exact ((HI.out.after y rfl).lo v).hi v⟩
                case measure => simp [intOf]; omega
              · have e0 : ((s : Int) == 0) = false := beq_eq_false_iff_ne.2 (by omega)
                have HS0 : Hid (s ≠ 0) := hs0
                clear hs0
                by_cases h1 : v < lo
                · by_cases h2 : hi < v
                  · go_wp2
                    refine wp_region_after (by kernel_rfl) (by kernel_rfl) ?_; (repeat (first | go_big_quiet_step ((fail)) | (refine wpQuiet_step (fun K hK => ?_); go_simp; first | (refine hK _ ?_; clear hK K) | (apply Exists.intro; refine ⟨fun x => ?_, hK _ ?_⟩; (fail); clear hK K)))); refine wpQuiet_nil ?_
                    intro y
                    go_wp2
                    go_roundw
                    case rel => exact ⟨s + 1, by omega, by go_num, by rw [HLo.out, HHi.out, if_pos (Or.inr h1), if_pos (Or.inr h2)]; exact ((HI.out.after y rfl).lo v).hi v⟩
                    case measure => simp [intOf]; omega
                  · go_wp2
                    refine wp_region_after (by kernel_rfl) (by kernel_rfl) ?_; (repeat (first | go_big_quiet_step ((fail)) | (refine wpQuiet_step (fun K hK => ?_); go_simp; first | (refine hK _ ?_; clear hK K) | (apply Exists.intro; refine ⟨fun x => ?_, hK _ ?_⟩; (fail); clear hK K)))); refine wpQuiet_nil ?_
                    intro y
                    go_wp2
                    go_roundw
                    case rel => exact ⟨s + 1, by omega, by go_num, by rw [HLo.out, HHi.out, if_pos (Or.inr h1), if_neg (fun h => h.elim HS0.out (by omega))]; exact (HI.out.after y rfl).lo v⟩
                    case measure => simp [intOf]; omega
                · by_cases h2 : hi < v
                  · go_wp2
                    refine wp_region_after (by kernel_rfl) (by kernel_rfl) ?_; (repeat (first | go_big_quiet_step ((fail)) | (refine wpQuiet_step (fun K hK => ?_); go_simp; first | (refine hK _ ?_; clear hK K) | (apply Exists.intro; refine ⟨fun x => ?_, hK _ ?_⟩; (fail); clear hK K)))); refine wpQuiet_nil ?_
                    intro y
                    go_wp2
                    go_roundw
                    case rel => exact ⟨s + 1, by omega, by go_num, by rw [HLo.out, HHi.out, if_neg (fun h => h.elim HS0.out (by omega)), if_pos (Or.inr h2)]; exact (HI.out.after y rfl).hi v⟩
                    case measure => simp [intOf]; omega
                  · go_wp2
                    refine wp_region_after (by kernel_rfl) (by kernel_rfl) ?_; (repeat (first | go_big_quiet_step ((fail)) | (refine wpQuiet_step (fun K hK => ?_); go_simp; first | (refine hK _ ?_; clear hK K) | (apply Exists.intro; refine ⟨fun x => ?_, hK _ ?_⟩; (fail); clear hK K)))); refine wpQuiet_nil ?_
                    intro y
                    go_wp2
                    go_roundw
                    case rel => exact ⟨s + 1, by omega, by go_num, by rw [HLo.out, HHi.out, if_neg (fun h => h.elim HS0.out (by omega)), if_neg (fun h => h.elim HS0.out (by omega))]; exact HI.out.after y rfl⟩
                    case measure => simp [intOf]; omega
            · obtain rfl : s = ps.length := by omega
              rw [← HL.out.1] at f2
              rw [← HL.out.2] at f3
              have hE := HE.out
              have hV := HV.out
              have hD := HD.out
              have hbest := HNW.out.best
              obtain ⟨_, gz, g0, g1, g2, g3⟩ := hbest
              have HT' := Lib.hid (HT.out (nwTo ps (prsI ps.length a ++ prsK a c)))
              have HK : Hid (prsI ps.length a ++ prsK a (c + 1) = (prsI ps.length a ++ prsK a c) ++ [(a, c)]) := by rw [prsK_succ hc0, List.append_assoc]; exact rfl
              clear HE HV HD HT HX HI HI0 HM1
              generalize hst : nwTo ps (prsI ps.length a ++ prsK a c) = st at *
              have HST := Lib.hid hst
              clear hst
              obtain ⟨sb, sd, sl, sh⟩ := st
              dsimp only at *
              obtain ⟨t1, t2, t3, t4, t5, t6⟩ := hE
              obtain ⟨⟨v1, v2⟩, v3, v4⟩ := hV
              obtain ⟨_, d1, d2⟩ := hD
              have k1 := prod_bd (a := HI - LO) (b := sd) (A := 12000000000) (B := 200000) (by omega) (by omega) (by omega) (by omega)
              have k2 := prod_bd (a := sh - sl) (b := DD) (A := 12000000000) (B := 200000) (by omega) (by omega) (by omega) (by omega)
              obtain ⟨k3, k4⟩ := k1
              obtain ⟨k5, k6⟩ := k2
              by_cases h0 : sd = 0
              · have e0 : (sd == 0) = true := by simp [h0]
                have H0 := Lib.hid h0
                clear h0
                go_wp2
                go_roundw
                case rel => exact ⟨c + 1, by omega, by omega, by go_num, by rw [HK.out]; exact HNW.out.put (by rw [HS.out, HT'.out, if_pos (Or.inl H0.out)])⟩
                case measure => simp [intOf]; omega
              · have e0 : (sd == 0) = false := beq_eq_false_iff_ne.2 h0
                have H0 : Hid (sd ≠ 0) := h0
                clear h0
                by_cases hlt2 : (HI - LO) * sd < (sh - sl) * DD
                · go_wp2
                  go_roundw
                  case rel => exact ⟨c + 1, by omega, by omega, by go_num, by rw [HK.out]; exact HNW.out.put (by rw [HS.out, HT'.out, if_pos (Or.inr hlt2)])⟩
                  case measure => simp [intOf]; omega
                · go_wp2
                  go_roundw
                  case rel => exact ⟨c + 1, by omega, by omega, by go_num, by rw [HK.out]; exact HNW.out.keep (by rw [HS.out, HST.out, HT'.out, if_neg (fun h => h.elim H0.out (by omega))])⟩
                  case measure => simp [intOf]; omega
        · obtain rfl : c = ps.length := by omega
          go_wp2
          go_roundw
          case rel => exact ⟨a + 1, by omega, by go_num, by rw [prsI_succ]; exact HM.out⟩
          case measure => simp [intOf]; omega
    · obtain rfl : a = ps.length := by omega
      have hN := HN.out
      have hall : prsI ps.length ps.length = prs ps.length := rfl
      rw [hall] at hN
      obtain ⟨hB, hR, hS⟩ := hN
      rw [nwTo_all HG.out h2] at hS
      unfold stOf at hS
      generalize hEB : prB ps (bestPr ps) = BB at *
      have EB := Lib.hid hEB
      clear hEB
      generalize hED : prD ps (bestPr ps) = DD at *
      have ED := Lib.hid hED
      clear hED
      generalize hEL : prLo ps (bestPr ps) = LO at *
      have EL := Lib.hid hEL
      clear hEL
      generalize hEH : prHi ps (bestPr ps) = HI at *
      have EH := Lib.hid hEH
      clear hEH
      dsimp only at hS
      obtain ⟨_, gz, g0, g1, g2, g3⟩ := hS
      have HR := Lib.hid (hR.all BB DD LO HI)
      have hz2 : w.heap.size < wr.heap.size := hR.lt
      obtain ⟨_, rz, r0, r1, r2, r3⟩ := hR
      have HB := Lib.hid hB
      clear hB HN hall
      go_wp2
      refine bodyPost_ret (v := .agg #[.int .i64 BB, .int .i64 DD, .int .i64 LO, .int .i64 HI]) (by simp [results, Try.results86, go_sem, HR.out.c0, HR.out.c1, HR.out.c2, HR.out.c3]) rfl ⟨by rw [EB.out, ED.out, EL.out, EH.out], ?_⟩
      have hB := HB.out
      exact (((hB.setCell (Nat.le_refl _) _).setCell (Nat.le_refl _) _).setCell (Nat.le_refl _) _).setCell (Nat.le_refl _) _
end Go.Proofs.Ytdhobjflfhijjaa
