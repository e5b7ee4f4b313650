/- fewest in the reference. -/
import Derived.Test.YtbjdojcenflliaaLne
namespace Go.Proofs.Ytbjdojcenflliaa
open Go.RowKit Go.Shelf
attribute [local go_sem] Oper.semAt_some
attribute [local go_sem] After.cell After.frozen After.lt After.le After.ne After.ne' After.set_eq After.size_set After.lt_add

/-- The first of the least counts so far. -/
def BsP (c : Nat → Nat) (P : List Nat) (z : Int) : Prop := (lsL c P = 0 ∧ z = -1) ∨ ∃ k : Nat, z = (k : Nat) ∧ lsL c P ≠ 0 ∧ P.find? (fun j => c j == lsL c P) = some k
theorem bsP_nil (c : Nat → Nat) : BsP c [] (-1) := .inl ⟨rfl, rfl⟩
theorem bsP_keep {c : Nat → Nat} {P : List Nat} {z : Int} (h : BsP c P z) {k : Nat} (hk : c k = 0 ∨ (lsL c P ≠ 0 ∧ lsL c P ≤ c k)) : BsP c (P ++ [k]) z := by
  have e : lsL c (P ++ [k]) = lsL c P := by
    rw [lsL_snoc]
    unfold lsS
    rw [if_neg (by omega)]
  rcases h with ⟨h1, h2⟩ | ⟨j, h1, h2, h3⟩
  · exact .inl ⟨e.trans h1, h2⟩
  · refine .inr ⟨j, h1, by rw [e]; exact h2, ?_⟩
    rw [e, List.find?_append, h3]
    rfl
theorem bsP_new {c : Nat → Nat} {P : List Nat} {k : Nat} (h0 : c k ≠ 0) (hk : lsL c P = 0 ∨ c k < lsL c P) : BsP c (P ++ [k]) (k : Nat) := by
  have e : lsL c (P ++ [k]) = c k := by
    rw [lsL_snoc]
    unfold lsS
    rw [if_pos ⟨h0, hk⟩]
  refine .inr ⟨k, rfl, by rw [e]; exact h0, ?_⟩
  rw [e, List.find?_append, List.find?_eq_none.2 (fun j hj => ?_)]
  · simp
  · simp only [beq_iff_eq]
    intro ej
    rcases hk with hk | hk
    · have := ls_zero hk j hj; omega
    · have := ls_least hj (c := c) (by omega); omega
theorem upT_next {h : Nat → Int} {u : Nat → Bool} {N : Nat} {b : Int} (hs : ∀ i j, i < j → j < N → h i < h j) {i k : Nat} {P : List Nat} (hk : k < N) (hU : upT h u N b i = P ++ upT h u N b k) : upT h u N b i = (if u k = true ∧ h k ≤ b then P ++ [k] else P) ++ upT h u N b (k + 1) := by
  by_cases hb : h k ≤ b
  · cases hu : u k
    · rw [if_neg (fun q => by cases q.1), hU, upT_skip ⟨hk, hb⟩ hu]
    · rw [if_pos ⟨rfl, hb⟩, hU, upT_take ⟨hk, hb⟩ hu]; simp
  · rw [if_neg (fun q => hb q.2), hU, upT_end (fun q => hb q.2), upT_end]
    rintro ⟨q1, q2⟩
    have := hs k (k + 1) (by omega) q1
    omega
/-- What the inner loop knows. -/
structure InL (S B n : Nat) (W3 W : World) (v : Value) (O : List Nat) : Prop where
  bl : Below S W3 W
  own : W.ownsRow S 3 1 v O.length (nvs O)
theorem InL.on {S B n : Nat} {W3 W W' : World} {v : Value} {O : List Nat} (h : InL S B n W3 W v O) (hS : S ≤ W.heap.size) (hb : Below W.heap.size W W') : InL S B n W3 W' v O :=
  ⟨h.bl.trans (hb.mono hS), ownsL_fr h.own ((Fr.refl (M := fun _ => False) W).call hb) (fun _ _ h => h)⟩
set_option maxRecDepth 100000 in
set_option maxHeartbeats 4000000 in
theorem rfewest_any (fi ga tp le lp sg : Int) (a : Option Addr) (n cap : Nat) (hg : Nat → Int) (sd : Nat → Bool) (w : World) (hA : JtAt w a n hg sd) (hv : VjP n hg) (hfi : 1 ≤ fi ∧ fi ≤ 200000) (hga : 1 ≤ ga ∧ ga ≤ 200000) (htp : 1 ≤ tp ∧ tp ≤ 200000) :
    Calls Try.prog 54 #[.agg #[.int .i64 fi, .int .i64 ga, .int .i64 tp, .int .i64 le, .int .i64 lp, .int .i64 sg], .slice a n cap] w fun e w' => (∃ v, e = .returned v ∧ NAt w' v (fwL hg sd n fi ga (tp - ga)) ∧ (fwL hg sd n fi ga (tp - ga) = [] → v = .slice none 0 0)) ∧ Below w.heap.size w w' := by
  obtain ⟨i0, hi, hz0, hz1, hz2⟩ := info_parts intInfo3
  have hnI : (n : Int) ≤ 200 := by have := hv.1; omega
  have HN := Lib.hid (fun W (hW : Below w.heap.size w W) => need_any fi ga tp le lp sg a n cap hg sd W (hA.on hW) hv hga htp)
  have HA := Lib.hid hA
  have HP := Lib.hid (fun k hk => vjT_pos hv.2 (i := k) hk)
  have HS := Lib.hid (fun i j (h1 : i < j) (h2 : j < n) => vjT_lt hv.2 h1 h2)
  obtain ⟨hga0, hga1⟩ := hga
  obtain ⟨htp0, htp1⟩ := htp
  obtain ⟨hfi0, hfi1⟩ := hfi
  clear hA hv
  go_enter Try.func54, Try.ntmps54
  go_wp2_with fail
  obtain ⟨W0, hW0⟩ : ∃ W0, w.alloc (.cells #[.int .i64 fi, .int .i64 ga, .int .i64 tp, .int .i64 le, .int .i64 lp, .int .i64 sg] 23) = W0 := ⟨_, rfl⟩
  have B0 : Hid (Below w.heap.size w W0) := Lib.hid (by rw [← hW0]; (repeat' (first | (with_reducible exact Below.refl _ _) | (with_reducible assumption) | (with_reducible refine Below.alloc ?_ ?_ _) | (with_reducible refine Below.drew ?_) | (with_reducible refine below_drewN ?_ _) | (with_reducible refine Below.setCell ?_ ?_ _) | (with_reducible refine below_after ?_ ?_ _) | (with_reducible refine below_set ?_) | (with_reducible refine After.size_le _ ?_) | (with_reducible refine size_alloc_le ?_) | (with_reducible refine size_set_le ?_) | (with_reducible refine size_drewN_le ?_) | go_size)))
  have q0 : W0.cell? ⟨w.heap.size, 0, none⟩ = some (.int .i64 fi) := by rw [← hW0]; simp [go_sem]
  have q1 : W0.cell? ⟨w.heap.size, 1, none⟩ = some (.int .i64 ga) := by rw [← hW0]; simp [go_sem]
  have s0 : W0.heap.size = w.heap.size + 1 := by rw [← hW0]; simp
  rw [hW0]
  clear hW0
  refine (HN.out W0 B0.out).mono ?_
  rintro e W3 ⟨⟨B, rfl, hB, hD⟩, hb3⟩
  have B3 := Lib.hid (B0.out.trans (hb3.mono B0.out.size))
  have f3 : Fr (fun _ => False) W0 W3 := (Fr.refl W0).call hb3
  have q0 := f3.cell (p := ⟨w.heap.size, 0, none⟩) id q0
  have q1 := f3.cell (p := ⟨w.heap.size, 1, none⟩) id q1
  have hs3 := f3.size
  have D3 := Lib.hid hD
  have HA3 := Lib.hid (HA.out.on B3.out)
  clear hb3 f3 hD HN HA
  obtain ⟨S, hS⟩ : ∃ S, W3.heap.size = S := ⟨_, rfl⟩
  have hBS : B < S := by have := D3.out.1; omega
  have hwS : w.heap.size < S := by omega
  go_wp2
  go_loopw [6, 7] (fun v at_ W => ∃ (O : List Nat) (bb : Int) (i : Nat), ((at_ = .int .i64 (-1) ∧ fi = bb ∧ 0 = i ∧ [] = O) ∨ ∃ p : Nat, at_ = .int .i64 (p : Nat) ∧ p < n ∧ hg p + ga = bb ∧ p + 1 = i) ∧ O.length ≤ i ∧ S ≤ W.heap.size ∧ Hid (InL S B n W3 W v O) ∧ Hid (fwL hg sd n fi ga (tp - ga) = O ++ fsL hg sd n ga (ctN hg sd n ga (tp - ga)) (lsL (ctN hg sd n ga (tp - ga)) (upT hg sd n bb i)) bb i ∧ (O = [] ∨ lsL (ctN hg sd n ga (tp - ga)) (upT hg sd n bb i) ≠ 0))) (fun _ at_ _ => (n - intOf at_).toNat)
  case atStart => exact ⟨[], fi, 0, .inl ⟨rfl, rfl, rfl, rfl⟩, Nat.le_refl _, by omega, Lib.hid ⟨by rw [← hS]; exact Below.refl _ _, World.ownsRow_nil _ _ _ _⟩, Lib.hid ⟨rfl, .inl rfl⟩⟩
  case round =>
    obtain ⟨O, bb, i, hat, hOi, hsz, HI, HF⟩ := hrel
    have HDn := Lib.hid (fun k (hk : k < n) => ndP_at (hg := hg) (sd := sd) (n := n) (st := ga) (la := tp - ga) (p := 0) (k := k) (by omega) hk)
    rcases hat with ⟨rfl, rfl, rfl, rfl⟩ | ⟨p, rfl, hpn, rfl, rfl⟩
    · go_wp2
      go_loopw [8, 9] (fun z i W => ∃ (k : Nat) (P : List Nat) (zz : Int), i = .int .i64 (k : Nat) ∧ z = .int .i64 zz ∧ (0 ≤ k ∧ k ≤ n) ∧ S ≤ W.heap.size ∧ Hid (upT hg sd n fi 0 = P ++ upT hg sd n fi k) ∧ Hid (BsP (ctN hg sd n ga (tp - ga)) P zz) ∧ Hid (InL S B n W3 W u6 ([] : List Nat))) (fun _ i _ => n - (intOf i).toNat)
      case atStart => exact ⟨0, [], -1, by go_num, rfl, ⟨Nat.le_refl _, by omega⟩, hsz, Lib.hid rfl, Lib.hid (bsP_nil _), HI⟩
      case round =>
        clear HI
        obtain ⟨k, P, zz, rfl, rfl, ⟨hik, hkn⟩, hsz, HU, HB, HI⟩ := hrel
        have fW : Fr (fun j => S ≤ j) W3 wr := ⟨HI.out.bl.os, HI.out.bl.tape, HI.out.bl.output, HI.out.bl.size, fun j hj hn => HI.out.bl.block j (by omega)⟩
        have k0 := fW.cell (p := ⟨w.heap.size, 0, none⟩) (by dsimp only; omega) q0
        have k1 := fW.cell (p := ⟨w.heap.size, 1, none⟩) (by dsimp only; omega) q1
        have hws : w.heap.size < wr.heap.size := by omega
        have hBw : B < wr.heap.size := by omega
        have HDc : Hid (∀ j, j < n → wr.cell? ⟨B, j, none⟩ = some (.int .i64 ((ndP hg sd n ga (tp - ga) 0 j : Nat) : Int))) := Lib.hid (fun j hj => fW.cell (p := ⟨B, j, none⟩) (by dsimp only; omega) (D3.out.2 j hj).1)
        have HAw : Hid (JtAt wr a n hg sd) := Lib.hid (HA3.out.on (by rw [hS]; exact HI.out.bl))
        by_cases hlt : k < n
        · have hlti : (k : Int) < (n : Int) := by omega
          obtain ⟨b5, o5, rfl, hb5, c0, c1⟩ := HAw.out k hlt
          have hgk := HP.out k hlt
          obtain ⟨hgk0, hgk1⟩ := hgk
          have n0 := HDc.out k hlt
          have HQ := Lib.hid (HDn.out k hlt)
          have hqle := ndP_le (hg := hg) (sd := sd) (n := n) (st := ga) (la := tp - ga) 0 k
          have HUn := Lib.hid (upT_next HS.out hlt HU.out)
          obtain ⟨q, hq⟩ : ∃ q, ndP hg sd n ga (tp - ga) 0 k = q := ⟨_, rfl⟩
          rw [hq] at n0 HQ hqle
          clear hq
          rcases q with _ | q
          · replace n0 : wr.cell? ⟨B, k, none⟩ = some (.int .i64 0) := n0
            have HBn : Hid (BsP (ctN hg sd n ga (tp - ga)) (if sd k = true ∧ hg k ≤ fi then P ++ [k] else P) zz) := Lib.hid (by
              split
              · rename_i h
                refine bsP_keep HB.out (.inl ?_)
                have h0 := HQ.out
                rw [if_pos h.1] at h0
                exact h0.symm
              · exact HB.out)
            clear HQ
            go_wp2
            refine wp_region_after (by kernel_rfl) (by kernel_rfl) ?_; (repeat (first | go_big_quiet_step ((fail)) | (refine wpQuiet_step (fun K hK => ?_); go_simp; first | (refine hK _ ?_; clear hK K) | (apply Exists.intro; refine ⟨fun x => ?_, hK _ ?_⟩; (fail); clear hK K)))); refine wpQuiet_nil ?_
            intro y
            have HI2 := Lib.hid (HI.out.on hsz y.out)
            have HSZ : S ≤ y.w.heap.size := by have := y.out.size; omega
            go_wp2
            go_roundw
            case rel => exact ⟨k + 1, _, _, by go_num, rfl, ⟨by omega, by omega⟩, HSZ, HUn, HBn, HI2⟩
            case measure => simp [intOf] <;> omega
          · have hsk : sd k = true := by
              cases h : sd k with
              | true => rfl
              | false => have h0 := HQ.out; rw [h] at h0; simp at h0
            have hck : (ctN hg sd n ga (tp - ga)) k = q + 1 := by
              have h0 := HQ.out
              rw [if_pos hsk] at h0
              exact h0.symm
            clear HQ
            have hqI : (q : Int) + 1 ≤ 200 := by omega
            have hqz : (((q : Int) + 1) == 0) = false := by rw [beq_eq_false_iff_ne]; omega
            replace n0 : wr.cell? ⟨B, k, none⟩ = some (.int .i64 ((q : Int) + 1)) := n0.trans (by rw [show ((q + 1 : Nat) : Int) = (q : Int) + 1 by omega])
            by_cases hle : hg k ≤ fi
            · have d1 : decide (fi < hg k) = false := decide_eq_false (by omega)
              rw [if_pos ⟨hsk, hle⟩] at HUn
              rcases HB.out with ⟨hl0, hzz⟩ | ⟨kb, hzz, hl0, hfd⟩
              · subst hzz
                have HBn := Lib.hid (bsP_new (c := (ctN hg sd n ga (tp - ga))) (P := P) (k := k) (by omega) (.inl hl0))
                clear hsk hck hl0
                go_wp2
                refine wp_region_after (by kernel_rfl) (by kernel_rfl) ?_; (repeat (first | go_big_quiet_step ((fail)) | (refine wpQuiet_step (fun K hK => ?_); go_simp; first | (refine hK _ ?_; clear hK K) | (apply Exists.intro; refine ⟨fun x => ?_, hK _ ?_⟩; (fail); clear hK K)))); refine wpQuiet_nil ?_
                intro y
                have HI2 := Lib.hid (HI.out.on hsz y.out)
                have HSZ : S ≤ y.w.heap.size := by have := y.out.size; omega
                go_wp2
                refine wp_region_after (by kernel_rfl) (by kernel_rfl) ?_; (repeat (first | go_big_quiet_step ((fail)) | (refine wpQuiet_step (fun K hK => ?_); go_simp; first | (refine hK _ ?_; clear hK K) | (apply Exists.intro; refine ⟨fun x => ?_, hK _ ?_⟩; (fail); clear hK K)))); refine wpQuiet_nil ?_
                intro y2
                have HI3 := Lib.hid (HI2.out.on HSZ y2.out)
                have HSZ2 : S ≤ y2.w.heap.size := by have := y2.out.size; omega
                go_wp2
                go_roundw
                case rel => exact ⟨k + 1, _, _, by go_num, rfl, ⟨by omega, by omega⟩, HSZ2, HUn, HBn, HI3⟩
                case measure => simp [intOf] <;> omega
              · subst hzz
                have hkbm := List.mem_of_find?_eq_some hfd
                have hckb : (ctN hg sd n ga (tp - ga)) kb = lsL (ctN hg sd n ga (tp - ga)) P := by simpa using List.find?_some hfd
                have hkbu := upT_of (show kb ∈ upT hg sd n fi 0 from by rw [HU.out]; exact List.mem_append_left _ hkbm)
                have nb := HDc.out kb hkbu.2.1
                have hndb := HDn.out kb hkbu.2.1
                rw [if_pos hkbu.2.2.2, hckb] at hndb
                have hmle := ndP_le (hg := hg) (sd := sd) (n := n) (st := ga) (la := tp - ga) 0 kb
                rw [hndb] at nb hmle
                have hkbI : (kb : Int) < (n : Int) := by have := hkbu.2.1; omega
                have hkb0 : ¬ (kb : Int) < 0 := by omega
                have hm0 := hl0
                obtain ⟨m, hm⟩ : ∃ m, lsL (ctN hg sd n ga (tp - ga)) P = m := ⟨_, rfl⟩
                rw [hm] at nb hmle
                have HM := Lib.hid hm
                have HBs := Lib.hid HB.out
                clear hfd hkbm hckb hndb hl0 hkbu hsk
                by_cases hqm : q + 1 < m
                · have HBn := Lib.hid (bsP_new (c := (ctN hg sd n ga (tp - ga))) (P := P) (k := k) (by omega) (.inr (by rw [HM.out]; omega)))
                  have d2 : decide ((q : Int) + 1 < (m : Int)) = true := decide_eq_true (by omega)
                  clear hck hm HB HBs
                  go_wp2
                  refine wp_region_after (by kernel_rfl) (by kernel_rfl) ?_; (repeat (first | go_big_quiet_step ((fail)) | (refine wpQuiet_step (fun K hK => ?_); go_simp; first | (refine hK _ ?_; clear hK K) | (apply Exists.intro; refine ⟨fun x => ?_, hK _ ?_⟩; (fail); clear hK K)))); refine wpQuiet_nil ?_
                  intro y
                  have HI2 := Lib.hid (HI.out.on hsz y.out)
                  have HSZ : S ≤ y.w.heap.size := by have := y.out.size; omega
                  have hBy : B < y.w.heap.size := by omega
                  go_wp2
                  refine wp_region_after (by kernel_rfl) (by kernel_rfl) ?_; (repeat (first | go_big_quiet_step ((fail)) | (refine wpQuiet_step (fun K hK => ?_); go_simp; first | (refine hK _ ?_; clear hK K) | (apply Exists.intro; refine ⟨fun x => ?_, hK _ ?_⟩; (fail); clear hK K)))); refine wpQuiet_nil ?_
                  intro y2
                  have HI3 := Lib.hid (HI2.out.on HSZ y2.out)
                  have HSZ2 : S ≤ y2.w.heap.size := by have := y2.out.size; omega
                  go_wp2
                  go_roundw
                  case rel => exact ⟨k + 1, _, _, by go_num, rfl, ⟨by omega, by omega⟩, HSZ2, HUn, HBn, HI3⟩
                  case measure => simp [intOf] <;> omega
                · have HBn := Lib.hid (bsP_keep (c := (ctN hg sd n ga (tp - ga))) (k := k) HBs.out (.inr ⟨hm0, by rw [HM.out]; omega⟩))
                  have d2 : decide ((q : Int) + 1 < (m : Int)) = false := decide_eq_false (by omega)
                  clear hck hm HB HBs
                  go_wp2
                  refine wp_region_after (by kernel_rfl) (by kernel_rfl) ?_; (repeat (first | go_big_quiet_step ((fail)) | (refine wpQuiet_step (fun K hK => ?_); go_simp; first | (refine hK _ ?_; clear hK K) | (apply Exists.intro; refine ⟨fun x => ?_, hK _ ?_⟩; (fail); clear hK K)))); refine wpQuiet_nil ?_
                  intro y
                  have HI2 := Lib.hid (HI.out.on hsz y.out)
                  have HSZ : S ≤ y.w.heap.size := by have := y.out.size; omega
                  go_wp2
                  refine wp_region_after (by kernel_rfl) (by kernel_rfl) ?_; (repeat (first | go_big_quiet_step ((fail)) | (refine wpQuiet_step (fun K hK => ?_); go_simp; first | (refine hK _ ?_; clear hK K) | (apply Exists.intro; refine ⟨fun x => ?_, hK _ ?_⟩; (fail); clear hK K)))); refine wpQuiet_nil ?_
                  intro y2
                  have HI3 := Lib.hid (HI2.out.on HSZ y2.out)
                  have HSZ2 : S ≤ y2.w.heap.size := by have := y2.out.size; omega
                  go_wp2
                  go_roundw
                  case rel => exact ⟨k + 1, _, _, by go_num, rfl, ⟨by omega, by omega⟩, HSZ2, HUn, HBn, HI3⟩
                  case measure => simp [intOf] <;> omega
            · have d1 : decide (fi < hg k) = true := decide_eq_true (by omega)
              have HBn := HB
              rw [if_neg (fun h => hle h.2)] at HUn
              clear hsk hck
              go_wp2
              refine wp_region_after (by kernel_rfl) (by kernel_rfl) ?_; (repeat (first | go_big_quiet_step ((fail)) | (refine wpQuiet_step (fun K hK => ?_); go_simp; first | (refine hK _ ?_; clear hK K) | (apply Exists.intro; refine ⟨fun x => ?_, hK _ ?_⟩; (fail); clear hK K)))); refine wpQuiet_nil ?_
              intro y
              have HI2 := Lib.hid (HI.out.on hsz y.out)
              have HSZ : S ≤ y.w.heap.size := by have := y.out.size; omega
              go_wp2
              go_roundw
              case rel => exact ⟨k + 1, _, _, by go_num, rfl, ⟨by omega, by omega⟩, HSZ, HUn, HBn, HI2⟩
              case measure => simp [intOf] <;> omega
        · obtain rfl : k = n := by omega
          have hU := HU.out
          have hend : upT hg sd k fi k = [] := upT_end (fun h => absurd h.1 (Nat.lt_irrefl _))
          rw [hend, List.append_nil] at hU
          have hlti : ¬ (k : Int) < (k : Int) := by omega
          have HBw : Hid (Below w.heap.size w wr) := Lib.hid (B3.out.trans (HI.out.bl.mono (by omega)))
          rcases HB.out with ⟨hl0, hzz⟩ | ⟨kb, hzz, hl0, hfd⟩
          · subst hzz
            have HW : Hid (fwL hg sd k fi ga (tp - ga) = []) := Lib.hid (by
              have h1 := HF.out.1
              have h2 := HF.out.2
              rw [hU, hl0] at h1 h2
              first
                | (rw [h1]; rfl)
                | (rcases h2 with h2 | h2; (rw [h1, h2]; rfl); exact absurd rfl h2))
            go_wp2
            go_ret
            exact ⟨⟨_, rfl, .inl ⟨rfl, HW.out⟩, fun _ => rfl⟩, HBw.out⟩
          · subst hzz
            have hkbm := List.mem_of_find?_eq_some hfd
            have hckb : (ctN hg sd k ga (tp - ga)) kb = lsL (ctN hg sd k ga (tp - ga)) P := by simpa using List.find?_some hfd
            have hkbu := upT_of (show kb ∈ upT hg sd k fi 0 from by rw [hU]; exact hkbm)
            have nb := HDc.out kb hkbu.2.1
            have hndb := HDn.out kb hkbu.2.1
            rw [if_pos hkbu.2.2.2, hckb] at hndb
            rw [hndb] at nb
            have hkbI : (kb : Int) < (k : Int) := by have := hkbu.2.1; omega
            have hkbl : 0 ≤ kb := hkbu.1
            have hmle := ndP_le (hg := hg) (sd := sd) (n := k) (st := ga) (la := tp - ga) 0 kb
            rw [hndb] at hmle
            obtain ⟨m, hm⟩ : ∃ m, lsL (ctN hg sd k ga (tp - ga)) P = m + 1 := ⟨_, (Nat.succ_pred_eq_of_ne_zero hl0).symm⟩
            have HFs : Hid (fwL hg sd k fi ga (tp - ga) = (([] : List Nat) ++ [kb]) ++ fsL hg sd k ga (ctN hg sd k ga (tp - ga)) m (hg kb + ga) (kb + 1)) := Lib.hid (by
              have h1 := HF.out.1
              rw [hm] at hfd
              rw [hU, hm] at h1
              rw [← hU] at hfd
              rw [h1]
              simp only [fsL, hfd]
              simp)
            rw [hm] at nb hckb hmle
            have HCk := Lib.hid hckb
            have hOl : ([] : List Nat).length ≤ 0 := by first | exact hOi | exact Nat.zero_le _
            clear hfd hkbm hckb hndb hl0 hm hU HB HU HF hend
            rcases m with _ | m
            · replace nb : wr.cell? ⟨B, kb, none⟩ = some (.int .i64 1) := nb
              have HW := Lib.hid HFs.out
              go_wp2_with (at_builtin; go_loud (refine wpList_append_own _ rfl _ _ 25 rfl S 3 i0 (.int .i64 0) 1 8 Try.underlying25 hi hz0 hz1 hz2 rfl (by decide) _ _ _ rfl (HI.out.own.alloc _) ⟨wr.heap.size, 0, none⟩ 1 1 [.int .i64 (kb : Nat)] rfl rfl (World.news_of_block (cs := #[.int .i64 (kb : Nat)]) (t := 3) (fr := (0, 0)) (heap_alloc_new wr _)) (by simp [Value.oneCell']) (by unfold maxLen; omega) (by omega) (by simp; omega) ?_; intro v' w4 hown' hgrow _; have F4 : Fr (fun g => S ≤ g) wr w4 := ((Fr.refl wr).alloc _).grown hgrow (fun k e => .inl (HI.out.own.lt k e).1); have HI4 : Hid (InL S B k W3 w4 v' (([] : List Nat) ++ [kb])) := Lib.hid ⟨HI.out.bl.trans (F4.below hsz (fun i hi h => absurd h (by omega))), by rw [List.length_append, show nvs (([] : List Nat) ++ [kb]) = nvs ([] : List Nat) ++ [.int .i64 (kb : Nat)] from by simp [nvs]]; exact hown'⟩; have hs4 : S ≤ w4.heap.size := (by have := F4.size; omega); have nb4 := F4.cell (p := ⟨B, kb, none⟩) (by dsimp only; omega) nb; clear hown' hgrow F4 nb))
              go_ret
              have HN := nat_own HI4.out.own
              have e : fwL hg sd k fi ga (tp - ga) = ([] : List Nat) ++ [kb] := by rw [HW.out]; simp [fsL]
              exact ⟨⟨_, rfl, by rw [e]; exact HN, fun h => by rw [e] at h; simp at h⟩, B3.out.trans (HI4.out.bl.mono (by omega))⟩
            · replace nb : wr.cell? ⟨B, kb, none⟩ = some (.int .i64 ((m : Int) + 2)) := nb.trans (by rw [show ((m + 1 + 1 : Nat) : Int) = (m : Int) + 2 by omega])
              have hm1 : (((m : Int) + 2) == 1) = false := by rw [beq_eq_false_iff_ne]; omega
              have hnx := Lib.hid (ctN_next (i := kb) (by omega) HCk.out)
              go_wp2_with (at_builtin; go_loud (refine wpList_append_own _ rfl _ _ 25 rfl S 3 i0 (.int .i64 0) 1 8 Try.underlying25 hi hz0 hz1 hz2 rfl (by decide) _ _ _ rfl (HI.out.own.alloc _) ⟨wr.heap.size, 0, none⟩ 1 1 [.int .i64 (kb : Nat)] rfl rfl (World.news_of_block (cs := #[.int .i64 (kb : Nat)]) (t := 3) (fr := (0, 0)) (heap_alloc_new wr _)) (by simp [Value.oneCell']) (by unfold maxLen; omega) (by omega) (by simp; omega) ?_; intro v' w4 hown' hgrow _; have F4 : Fr (fun g => S ≤ g) wr w4 := ((Fr.refl wr).alloc _).grown hgrow (fun k e => .inl (HI.out.own.lt k e).1); have HI4 : Hid (InL S B k W3 w4 v' (([] : List Nat) ++ [kb])) := Lib.hid ⟨HI.out.bl.trans (F4.below hsz (fun i hi h => absurd h (by omega))), by rw [List.length_append, show nvs (([] : List Nat) ++ [kb]) = nvs ([] : List Nat) ++ [.int .i64 (kb : Nat)] from by simp [nvs]]; exact hown'⟩; have hs4 : S ≤ w4.heap.size := (by have := F4.size; omega); have nb4 := F4.cell (p := ⟨B, kb, none⟩) (by dsimp only; omega) nb; clear hown' hgrow F4 nb))
              go_roundw
              case rel => exact ⟨([] : List Nat) ++ [kb], hg kb + ga, kb + 1, .inr ⟨kb, rfl, by omega, rfl, rfl⟩, by rw [List.length_append]; simp only [List.length_cons, List.length_nil]; omega, hs4, HI4, Lib.hid ⟨by rw [hnx.out]; exact HFs.out, .inr (by rw [hnx.out]; omega)⟩⟩
              case measure => simp [intOf] <;> omega
    · have hgp := HP.out p hpn
      obtain ⟨hgp0, hgp1⟩ := hgp
      have hpI : (p : Int) < (n : Int) := by omega
      have ep1 : decide ((p : Int) < 0) = false := decide_eq_false (by omega)
      have ep2 : decide (0 ≤ (p : Int)) = true := decide_eq_true (by omega)
      go_wp2
      go_loopw [8, 9] (fun z i W => ∃ (k : Nat) (P : List Nat) (zz : Int), i = .int .i64 (k : Nat) ∧ z = .int .i64 zz ∧ ((p + 1) ≤ k ∧ k ≤ n) ∧ S ≤ W.heap.size ∧ Hid (upT hg sd n (hg p + ga) (p + 1) = P ++ upT hg sd n (hg p + ga) k) ∧ Hid (BsP (ctN hg sd n ga (tp - ga)) P zz) ∧ Hid (InL S B n W3 W u6 O)) (fun _ i _ => n - (intOf i).toNat)
      case atStart => exact ⟨(p + 1), [], -1, by go_num, rfl, ⟨Nat.le_refl _, by omega⟩, hsz, Lib.hid rfl, Lib.hid (bsP_nil _), HI⟩
      case round =>
        clear HI
        obtain ⟨k, P, zz, rfl, rfl, ⟨hik, hkn⟩, hsz, HU, HB, HI⟩ := hrel
        have fW : Fr (fun j => S ≤ j) W3 wr := ⟨HI.out.bl.os, HI.out.bl.tape, HI.out.bl.output, HI.out.bl.size, fun j hj hn => HI.out.bl.block j (by omega)⟩
        have k0 := fW.cell (p := ⟨w.heap.size, 0, none⟩) (by dsimp only; omega) q0
        have k1 := fW.cell (p := ⟨w.heap.size, 1, none⟩) (by dsimp only; omega) q1
        have hws : w.heap.size < wr.heap.size := by omega
        have hBw : B < wr.heap.size := by omega
        have HDc : Hid (∀ j, j < n → wr.cell? ⟨B, j, none⟩ = some (.int .i64 ((ndP hg sd n ga (tp - ga) 0 j : Nat) : Int))) := Lib.hid (fun j hj => fW.cell (p := ⟨B, j, none⟩) (by dsimp only; omega) (D3.out.2 j hj).1)
        have HAw : Hid (JtAt wr a n hg sd) := Lib.hid (HA3.out.on (by rw [hS]; exact HI.out.bl))
        by_cases hlt : k < n
        · have hlti : (k : Int) < (n : Int) := by omega
          obtain ⟨b5, o5, rfl, hb5, c0, c1⟩ := HAw.out k hlt
          obtain ⟨b6, o6, e6, _, p0, _⟩ := HAw.out p hpn
          cases e6
          have hgk := HP.out k hlt
          obtain ⟨hgk0, hgk1⟩ := hgk
          have n0 := HDc.out k hlt
          have HQ := Lib.hid (HDn.out k hlt)
          have hqle := ndP_le (hg := hg) (sd := sd) (n := n) (st := ga) (la := tp - ga) 0 k
          have HUn := Lib.hid (upT_next HS.out hlt HU.out)
          obtain ⟨q, hq⟩ : ∃ q, ndP hg sd n ga (tp - ga) 0 k = q := ⟨_, rfl⟩
          rw [hq] at n0 HQ hqle
          clear hq
          rcases q with _ | q
          · replace n0 : wr.cell? ⟨B, k, none⟩ = some (.int .i64 0) := n0
            have HBn : Hid (BsP (ctN hg sd n ga (tp - ga)) (if sd k = true ∧ hg k ≤ (hg p + ga) then P ++ [k] else P) zz) := Lib.hid (by
              split
              · rename_i h
                refine bsP_keep HB.out (.inl ?_)
                have h0 := HQ.out
                rw [if_pos h.1] at h0
                exact h0.symm
              · exact HB.out)
            clear HQ
            go_wp2
            refine wp_region_after (by kernel_rfl) (by kernel_rfl) ?_; (repeat (first | go_big_quiet_step ((fail)) | (refine wpQuiet_step (fun K hK => ?_); go_simp; first | (refine hK _ ?_; clear hK K) | (apply Exists.intro; refine ⟨fun x => ?_, hK _ ?_⟩; (fail); clear hK K)))); refine wpQuiet_nil ?_
            intro y
            have HI2 := Lib.hid (HI.out.on hsz y.out)
            have HSZ : S ≤ y.w.heap.size := by have := y.out.size; omega
            go_wp2
            go_roundw
            case rel => exact ⟨k + 1, _, _, by go_num, rfl, ⟨by omega, by omega⟩, HSZ, HUn, HBn, HI2⟩
            case measure => simp [intOf] <;> omega
          · have hsk : sd k = true := by
              cases h : sd k with
              | true => rfl
              | false => have h0 := HQ.out; rw [h] at h0; simp at h0
            have hck : (ctN hg sd n ga (tp - ga)) k = q + 1 := by
              have h0 := HQ.out
              rw [if_pos hsk] at h0
              exact h0.symm
            clear HQ
            have hqI : (q : Int) + 1 ≤ 200 := by omega
            have hqz : (((q : Int) + 1) == 0) = false := by rw [beq_eq_false_iff_ne]; omega
            replace n0 : wr.cell? ⟨B, k, none⟩ = some (.int .i64 ((q : Int) + 1)) := n0.trans (by rw [show ((q + 1 : Nat) : Int) = (q : Int) + 1 by omega])
            by_cases hle : hg k ≤ (hg p + ga)
            · have d1 : decide (ga < hg k - hg p) = false := decide_eq_false (by omega)
              rw [if_pos ⟨hsk, hle⟩] at HUn
              rcases HB.out with ⟨hl0, hzz⟩ | ⟨kb, hzz, hl0, hfd⟩
              · subst hzz
                have HBn := Lib.hid (bsP_new (c := (ctN hg sd n ga (tp - ga))) (P := P) (k := k) (by omega) (.inl hl0))
                clear hsk hck hl0
                go_wp2
                refine wp_region_after (by kernel_rfl) (by kernel_rfl) ?_; (repeat (first | go_big_quiet_step ((fail)) | (refine wpQuiet_step (fun K hK => ?_); go_simp; first | (refine hK _ ?_; clear hK K) | (apply Exists.intro; refine ⟨fun x => ?_, hK _ ?_⟩; (fail); clear hK K)))); refine wpQuiet_nil ?_
                intro y
                have HI2 := Lib.hid (HI.out.on hsz y.out)
                have HSZ : S ≤ y.w.heap.size := by have := y.out.size; omega
                go_wp2
                refine wp_region_after (by kernel_rfl) (by kernel_rfl) ?_; (repeat (first | go_big_quiet_step ((fail)) | (refine wpQuiet_step (fun K hK => ?_); go_simp; first | (refine hK _ ?_; clear hK K) | (apply Exists.intro; refine ⟨fun x => ?_, hK _ ?_⟩; (fail); clear hK K)))); refine wpQuiet_nil ?_
                intro y2
                have HI3 := Lib.hid (HI2.out.on HSZ y2.out)
                have HSZ2 : S ≤ y2.w.heap.size := by have := y2.out.size; omega
                go_wp2
                go_roundw
                case rel => exact ⟨k + 1, _, _, by go_num, rfl, ⟨by omega, by omega⟩, HSZ2, HUn, HBn, HI3⟩
                case measure => simp [intOf] <;> omega
              · subst hzz
                have hkbm := List.mem_of_find?_eq_some hfd
                have hckb : (ctN hg sd n ga (tp - ga)) kb = lsL (ctN hg sd n ga (tp - ga)) P := by simpa using List.find?_some hfd
                have hkbu := upT_of (show kb ∈ upT hg sd n (hg p + ga) (p + 1) from by rw [HU.out]; exact List.mem_append_left _ hkbm)
                have nb := HDc.out kb hkbu.2.1
                have hndb := HDn.out kb hkbu.2.1
                rw [if_pos hkbu.2.2.2, hckb] at hndb
                have hmle := ndP_le (hg := hg) (sd := sd) (n := n) (st := ga) (la := tp - ga) 0 kb
                rw [hndb] at nb hmle
                have hkbI : (kb : Int) < (n : Int) := by have := hkbu.2.1; omega
                have hkb0 : ¬ (kb : Int) < 0 := by omega
                have hm0 := hl0
                obtain ⟨m, hm⟩ : ∃ m, lsL (ctN hg sd n ga (tp - ga)) P = m := ⟨_, rfl⟩
                rw [hm] at nb hmle
                have HM := Lib.hid hm
                have HBs := Lib.hid HB.out
                clear hfd hkbm hckb hndb hl0 hkbu hsk
                by_cases hqm : q + 1 < m
                · have HBn := Lib.hid (bsP_new (c := (ctN hg sd n ga (tp - ga))) (P := P) (k := k) (by omega) (.inr (by rw [HM.out]; omega)))
                  have d2 : decide ((q : Int) + 1 < (m : Int)) = true := decide_eq_true (by omega)
                  clear hck hm HB HBs
                  go_wp2
                  refine wp_region_after (by kernel_rfl) (by kernel_rfl) ?_; (repeat (first | go_big_quiet_step ((fail)) | (refine wpQuiet_step (fun K hK => ?_); go_simp; first | (refine hK _ ?_; clear hK K) | (apply Exists.intro; refine ⟨fun x => ?_, hK _ ?_⟩; (fail); clear hK K)))); refine wpQuiet_nil ?_
                  intro y
                  have HI2 := Lib.hid (HI.out.on hsz y.out)
                  have HSZ : S ≤ y.w.heap.size := by have := y.out.size; omega
                  have hBy : B < y.w.heap.size := by omega
                  go_wp2
                  refine wp_region_after (by kernel_rfl) (by kernel_rfl) ?_; (repeat (first | go_big_quiet_step ((fail)) | (refine wpQuiet_step (fun K hK => ?_); go_simp; first | (refine hK _ ?_; clear hK K) | (apply Exists.intro; refine ⟨fun x => ?_, hK _ ?_⟩; (fail); clear hK K)))); refine wpQuiet_nil ?_
                  intro y2
                  have HI3 := Lib.hid (HI2.out.on HSZ y2.out)
                  have HSZ2 : S ≤ y2.w.heap.size := by have := y2.out.size; omega
                  go_wp2
                  go_roundw
                  case rel => exact ⟨k + 1, _, _, by go_num, rfl, ⟨by omega, by omega⟩, HSZ2, HUn, HBn, HI3⟩
                  case measure => simp [intOf] <;> omega
                · have HBn := Lib.hid (bsP_keep (c := (ctN hg sd n ga (tp - ga))) (k := k) HBs.out (.inr ⟨hm0, by rw [HM.out]; omega⟩))
                  have d2 : decide ((q : Int) + 1 < (m : Int)) = false := decide_eq_false (by omega)
                  clear hck hm HB HBs
                  go_wp2
                  refine wp_region_after (by kernel_rfl) (by kernel_rfl) ?_; (repeat (first | go_big_quiet_step ((fail)) | (refine wpQuiet_step (fun K hK => ?_); go_simp; first | (refine hK _ ?_; clear hK K) | (apply Exists.intro; refine ⟨fun x => ?_, hK _ ?_⟩; (fail); clear hK K)))); refine wpQuiet_nil ?_
                  intro y
                  have HI2 := Lib.hid (HI.out.on hsz y.out)
                  have HSZ : S ≤ y.w.heap.size := by have := y.out.size; omega
                  go_wp2
                  refine wp_region_after (by kernel_rfl) (by kernel_rfl) ?_; (repeat (first | go_big_quiet_step ((fail)) | (refine wpQuiet_step (fun K hK => ?_); go_simp; first | (refine hK _ ?_; clear hK K) | (apply Exists.intro; refine ⟨fun x => ?_, hK _ ?_⟩; (fail); clear hK K)))); refine wpQuiet_nil ?_
                  intro y2
                  have HI3 := Lib.hid (HI2.out.on HSZ y2.out)
                  have HSZ2 : S ≤ y2.w.heap.size := by have := y2.out.size; omega
                  go_wp2
                  go_roundw
                  case rel => exact ⟨k + 1, _, _, by go_num, rfl, ⟨by omega, by omega⟩, HSZ2, HUn, HBn, HI3⟩
                  case measure => simp [intOf] <;> omega
            · have d1 : decide (ga < hg k - hg p) = true := decide_eq_true (by omega)
              have HBn := HB
              rw [if_neg (fun h => hle h.2)] at HUn
              clear hsk hck
              go_wp2
              refine wp_region_after (by kernel_rfl) (by kernel_rfl) ?_; (repeat (first | go_big_quiet_step ((fail)) | (refine wpQuiet_step (fun K hK => ?_); go_simp; first | (refine hK _ ?_; clear hK K) | (apply Exists.intro; refine ⟨fun x => ?_, hK _ ?_⟩; (fail); clear hK K)))); refine wpQuiet_nil ?_
              intro y
              have HI2 := Lib.hid (HI.out.on hsz y.out)
              have HSZ : S ≤ y.w.heap.size := by have := y.out.size; omega
              go_wp2
              go_roundw
              case rel => exact ⟨k + 1, _, _, by go_num, rfl, ⟨by omega, by omega⟩, HSZ, HUn, HBn, HI2⟩
              case measure => simp [intOf] <;> omega
        · obtain rfl : k = n := by omega
          have hU := HU.out
          have hend : upT hg sd k (hg p + ga) k = [] := upT_end (fun h => absurd h.1 (Nat.lt_irrefl _))
          rw [hend, List.append_nil] at hU
          have hlti : ¬ (k : Int) < (k : Int) := by omega
          have HBw : Hid (Below w.heap.size w wr) := Lib.hid (B3.out.trans (HI.out.bl.mono (by omega)))
          rcases HB.out with ⟨hl0, hzz⟩ | ⟨kb, hzz, hl0, hfd⟩
          · subst hzz
            have HW : Hid (fwL hg sd k fi ga (tp - ga) = []) := Lib.hid (by
              have h1 := HF.out.1
              have h2 := HF.out.2
              rw [hU, hl0] at h1 h2
              first
                | (rw [h1]; rfl)
                | (rcases h2 with h2 | h2; (rw [h1, h2]; rfl); exact absurd rfl h2))
            go_wp2
            go_ret
            exact ⟨⟨_, rfl, .inl ⟨rfl, HW.out⟩, fun _ => rfl⟩, HBw.out⟩
          · subst hzz
            have hkbm := List.mem_of_find?_eq_some hfd
            have hckb : (ctN hg sd k ga (tp - ga)) kb = lsL (ctN hg sd k ga (tp - ga)) P := by simpa using List.find?_some hfd
            have hkbu := upT_of (show kb ∈ upT hg sd k (hg p + ga) (p + 1) from by rw [hU]; exact hkbm)
            have nb := HDc.out kb hkbu.2.1
            have hndb := HDn.out kb hkbu.2.1
            rw [if_pos hkbu.2.2.2, hckb] at hndb
            rw [hndb] at nb
            have hkbI : (kb : Int) < (k : Int) := by have := hkbu.2.1; omega
            have hkbl : (p + 1) ≤ kb := hkbu.1
            have hmle := ndP_le (hg := hg) (sd := sd) (n := k) (st := ga) (la := tp - ga) 0 kb
            rw [hndb] at hmle
            obtain ⟨m, hm⟩ : ∃ m, lsL (ctN hg sd k ga (tp - ga)) P = m + 1 := ⟨_, (Nat.succ_pred_eq_of_ne_zero hl0).symm⟩
            have HFs : Hid (fwL hg sd k fi ga (tp - ga) = (O ++ [kb]) ++ fsL hg sd k ga (ctN hg sd k ga (tp - ga)) m (hg kb + ga) (kb + 1)) := Lib.hid (by
              have h1 := HF.out.1
              rw [hm] at hfd
              rw [hU, hm] at h1
              rw [← hU] at hfd
              rw [h1]
              simp only [fsL, hfd]
              simp)
            rw [hm] at nb hckb hmle
            have HCk := Lib.hid hckb
            have hOl : O.length ≤ (p + 1) := by first | exact hOi | exact Nat.zero_le _
            clear hfd hkbm hckb hndb hl0 hm hU HB HU HF hend
            rcases m with _ | m
            · replace nb : wr.cell? ⟨B, kb, none⟩ = some (.int .i64 1) := nb
              have HW := Lib.hid HFs.out
              go_wp2_with (at_builtin; go_loud (refine wpList_append_own _ rfl _ _ 25 rfl S 3 i0 (.int .i64 0) 1 8 Try.underlying25 hi hz0 hz1 hz2 rfl (by decide) _ _ _ rfl (HI.out.own.alloc _) ⟨wr.heap.size, 0, none⟩ 1 1 [.int .i64 (kb : Nat)] rfl rfl (World.news_of_block (cs := #[.int .i64 (kb : Nat)]) (t := 3) (fr := (0, 0)) (heap_alloc_new wr _)) (by simp [Value.oneCell']) (by unfold maxLen; omega) (by omega) (by simp; omega) ?_; intro v' w4 hown' hgrow _; have F4 : Fr (fun g => S ≤ g) wr w4 := ((Fr.refl wr).alloc _).grown hgrow (fun k e => .inl (HI.out.own.lt k e).1); have HI4 : Hid (InL S B k W3 w4 v' (O ++ [kb])) := Lib.hid ⟨HI.out.bl.trans (F4.below hsz (fun i hi h => absurd h (by omega))), by rw [List.length_append, show nvs (O ++ [kb]) = nvs O ++ [.int .i64 (kb : Nat)] from by simp [nvs]]; exact hown'⟩; have hs4 : S ≤ w4.heap.size := (by have := F4.size; omega); have nb4 := F4.cell (p := ⟨B, kb, none⟩) (by dsimp only; omega) nb; clear hown' hgrow F4 nb))
              go_ret
              have HN := nat_own HI4.out.own
              have e : fwL hg sd k fi ga (tp - ga) = O ++ [kb] := by rw [HW.out]; simp [fsL]
              exact ⟨⟨_, rfl, by rw [e]; exact HN, fun h => by rw [e] at h; simp at h⟩, B3.out.trans (HI4.out.bl.mono (by omega))⟩
            · replace nb : wr.cell? ⟨B, kb, none⟩ = some (.int .i64 ((m : Int) + 2)) := nb.trans (by rw [show ((m + 1 + 1 : Nat) : Int) = (m : Int) + 2 by omega])
              have hm1 : (((m : Int) + 2) == 1) = false := by rw [beq_eq_false_iff_ne]; omega
              have hnx := Lib.hid (ctN_next (i := kb) (by omega) HCk.out)
              go_wp2_with (at_builtin; go_loud (refine wpList_append_own _ rfl _ _ 25 rfl S 3 i0 (.int .i64 0) 1 8 Try.underlying25 hi hz0 hz1 hz2 rfl (by decide) _ _ _ rfl (HI.out.own.alloc _) ⟨wr.heap.size, 0, none⟩ 1 1 [.int .i64 (kb : Nat)] rfl rfl (World.news_of_block (cs := #[.int .i64 (kb : Nat)]) (t := 3) (fr := (0, 0)) (heap_alloc_new wr _)) (by simp [Value.oneCell']) (by unfold maxLen; omega) (by omega) (by simp; omega) ?_; intro v' w4 hown' hgrow _; have F4 : Fr (fun g => S ≤ g) wr w4 := ((Fr.refl wr).alloc _).grown hgrow (fun k e => .inl (HI.out.own.lt k e).1); have HI4 : Hid (InL S B k W3 w4 v' (O ++ [kb])) := Lib.hid ⟨HI.out.bl.trans (F4.below hsz (fun i hi h => absurd h (by omega))), by rw [List.length_append, show nvs (O ++ [kb]) = nvs O ++ [.int .i64 (kb : Nat)] from by simp [nvs]]; exact hown'⟩; have hs4 : S ≤ w4.heap.size := (by have := F4.size; omega); have nb4 := F4.cell (p := ⟨B, kb, none⟩) (by dsimp only; omega) nb; clear hown' hgrow F4 nb))
              go_roundw
              case rel => exact ⟨O ++ [kb], hg kb + ga, kb + 1, .inr ⟨kb, rfl, by omega, rfl, rfl⟩, by rw [List.length_append]; simp only [List.length_cons, List.length_nil]; omega, hs4, HI4, Lib.hid ⟨by rw [hnx.out]; exact HFs.out, .inr (by rw [hnx.out]; omega)⟩⟩
              case measure => simp [intOf] <;> omega
end Go.Proofs.Ytbjdojcenflliaa
