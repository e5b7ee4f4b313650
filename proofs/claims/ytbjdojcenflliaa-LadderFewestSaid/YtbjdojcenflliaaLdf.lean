/- counts: the route's counts as a map. -/
import Derived.Test.YtbjdojcenflliaaLde
import Derived.Test.YtbjdojcenflliaaLdh
import Derived.RangeFuncOwn
import Derived.Deep.RegionHeld3
import Derived.Deep.RegionLaw
namespace Go.Proofs.Ytbjdojcenflliaa
open Go.RowKit Go.Shelf Go.Maps
attribute [local go_sem] Oper.semAt_some

set_option maxRecDepth 100000 in
set_option maxHeartbeats 4000000 in
theorem counts_any (a : Option Addr) (n cap : Nat) (hg : Nat → Int) (us : Nat → Bool) (fi st la : Int) (w : World) (hA : JtAt w a n hg us) (hn : n ≤ 1000) (h1 : ∀ k < n, -1000000 ≤ hg k ∧ hg k ≤ 1000000) (h2 : -1000000 ≤ st ∧ st ≤ 1000000) :
    Calls Try.prog 71 #[.agg #[.slice a n cap, .int .i64 fi, .int .i64 st, .int .i64 la]] w fun e w' => (∃ B t, e = .returned (.map (some B)) ∧ w.heap.size ≤ B ∧ t ≤ n ∧ Ic w' B t (ctN hg us n st la)) ∧ Below w.heap.size w w' := by
  have HA := Lib.hid hA
  have HU := Lib.hid (fun W => backward_any a n cap W)
  have hmm := run_makeMap_0
  clear hA
  refine (callsIn_wide (n := 6)).1 ?_
  refine callsIn_of_wp_marks Try.func71 rfl trivial ?_ rfl
  simp only [Try.ntmps71, List.size_toArray, List.length_cons, List.length_nil, Nat.reduceAdd, Nat.reduceSub, Array.replicate_succ, Array.replicate_zero, List.push_toArray, List.append_toArray, List.nil_append, List.cons_append]
  refine wpIn_wide.2 ?_
  go_wp2_with (go_at_call 77; refine (HU.out _).mono ?_; rintro e w2 ⟨rfl, rfl⟩)
  obtain ⟨W0, hW0⟩ : ∃ W0, ((((w.alloc (.cells #[.slice a n cap, .int .i64 fi, .int .i64 st, .int .i64 la] 60)).alloc (.map #[] 0)).alloc (.cells #[.map (some (w.heap.size + 1))] 81)).alloc (.cells #[.slice a n cap] 58)) = W0 := ⟨_, rfl⟩
  have b0 : Below w.heap.size w W0 := by rw [← hW0]; (repeat' (first | (with_reducible exact Below.refl _ _) | (with_reducible assumption) | (with_reducible refine Below.alloc ?_ ?_ _) | (with_reducible refine Below.drew ?_) | (with_reducible refine below_drewN ?_ _) | (with_reducible refine Below.setCell ?_ ?_ _) | (with_reducible refine below_after ?_ ?_ _) | (with_reducible refine below_set ?_) | (with_reducible refine After.size_le _ ?_) | (with_reducible refine size_alloc_le ?_) | (with_reducible refine size_set_le ?_) | (with_reducible refine size_drewN_le ?_) | go_size))
  have ec : W0.cell? ⟨w.heap.size + 1 + 1, 0, none⟩ = some (.map (some (w.heap.size + 1))) := by rw [← hW0]; simp [go_sem]
  have eb : W0.cell? ⟨w.heap.size + 1 + 1 + 1, 0, none⟩ = some (.slice a n cap) := by rw [← hW0]; simp [go_sem]
  have s0 : W0.heap.size = w.heap.size + 4 := by rw [← hW0]; simp
  have er : RtB W0 w.heap.size (.slice a n cap) fi st la := by
    rw [← hW0]
    refine ⟨by simp; omega, by simp [go_sem], by simp [go_sem], by simp [go_sem], by simp [go_sem], fun o => by simp [go_sem]⟩
  have eI : Ic W0 (w.heap.size + 1) 0 (fun _ => 0) := by
    rw [← hW0]
    have := ic_made (w.alloc (.cells #[.slice a n cap, .int .i64 fi, .int .i64 st, .int .i64 la] 60))
    rw [World.size_alloc] at this
    exact this.on (((Below.refl _ _).alloc (Nat.le_refl _) _).alloc (by simp) _)
  have hA0 := HA.out.on b0
  have hab : ∀ b off, a = some ⟨b, off, none⟩ → 0 < n → ¬ b = w.heap.size + 1 := fun b off e h => by
    obtain ⟨b', off', e', h1, _⟩ := HA.out 0 h
    rw [e] at e'; cases e'; omega
  rw [hW0]
  clear hW0 HU hmm
  refine wpIn_wide (n := 6).1 ?_
  refine wpIn_rangeFunc_fr rfl (by omega) (gf := 81) (lb := #[.pointer (some ⟨w.heap.size + 1 + 1 + 1, 0, none⟩)]) rfl trivial (enters_of Try.func81 (by kernel_rfl) rfl)
    (O := fun _ => False) (M := fun j => j = w.heap.size + 1) (fun j h => h.elim)
    (backward1_fr 5 (by omega) (w.heap.size + 1 + 1 + 1) a n cap hg us _ W0 (by omega) hab hn eb hA0)
    (fun j h => by omega) (fun _ => rfl)
    (fun pre V => ((∃ t, t ≤ pre.length ∧ Ic V (w.heap.size + 1) t (ctS hg us n st la pre.length)) ∧ RtB V w.heap.size (.slice a n cap) fi st la ∧ V.cell? ⟨w.heap.size + 1 + 1, 0, none⟩ = some (.map (some (w.heap.size + 1)))) ∧ Below w.heap.size w V)
    (fun _ _ _ => False)
    (fun pre A A' hs hf => by
      obtain ⟨⟨⟨t, ht, h1⟩, h2, h3⟩, h4⟩ := hs
      have nb : ∀ j, j < w.heap.size + 4 → ¬ OwnM (fun _ => False) W0.heap.size (W0.heap.size + 2 + 0) A j := fun j hj h => by
        rcases h with h | h
        · exact h
        · have := h.1; omega
      exact ⟨⟨⟨t, ht, h1.fr hf (nb _ (by omega))⟩, h2.fr hf (nb _ (by omega)), hf.cell (p := ⟨w.heap.size + 1 + 1, 0, none⟩) (nb _ (by dsimp only; omega)) h3⟩, h4.trans (hf.below h4.size (fun j hj => nb j (by omega)))⟩)
    (fun _ _ _ _ hs _ => hs)
    ⟨⟨⟨0, Nat.zero_le _, eI⟩, er, ec⟩, b0⟩
    (fun x a' (V : World) => ∃ P, W0.heap.size + 2 + 0 ≤ P ∧ V.cell? ⟨P, 0, none⟩ = some (.int .i64 (hg x)) ∧ a' = { tmps := #[.agg #[.slice a n cap, .int .i64 fi, .int .i64 st, .int .i64 la], .pointer (some ⟨w.heap.size, 0, none⟩), .map none, .pointer (some ⟨w.heap.size + 1 + 1, 0, none⟩), .int .i64 (x : Nat), .pointer (some ⟨P, 0, none⟩), undef, .map (some (w.heap.size + 1)), .pointer (some ⟨w.heap.size, 0, none⟩), .slice a n cap, .func (.func 81) #[] #[.pointer (some ⟨w.heap.size + 1 + 1 + 1, 0, none⟩)], .int .i64 (x : Nat), .agg #[.int .i64 (hg x), .bool (us x)], undef, undef, undef, undef, undef, undef, undef, undef, undef, undef, undef, undef, undef, undef, undef, undef, undef, undef, undef, undef, undef, undef], defers := [] })
    (fun x a' _ A A' hs hf => by
      obtain ⟨P, h1, h2, h3⟩ := hs
      refine ⟨P, h1, hf.cell (p := ⟨P, 0, none⟩) (fun h => ?_) h2, h3⟩
      rcases h with h | h
      · exact h
      · rcases h.2 with h | ⟨o, ho, hc⟩
        · dsimp only at h; omega
        · obtain ⟨o2, q1, q2⟩ := cells_of_cell h2
          rw [ho] at q1; cases q1; rw [hc] at q2; cases q2)
    ?assign ?body ?done ?stop
  case assign =>
    rintro l' pre x V K hnx hI hsz hK
    gi_wp2
    have fa : Fr (fun _ => False) V (V.alloc (.cells #[.int .i64 (hg x), .bool (us x)] 79)) := (Fr.refl V).alloc _
    obtain ⟨⟨⟨t, ht, i1⟩, i2, i3⟩, i4⟩ := hI
    exact hK _ _ ((Fr.refl V).alloc _) ⟨⟨⟨t, ht, i1.fr fa id⟩, i2.fr fa id, fa.cell (p := ⟨w.heap.size + 1 + 1, 0, none⟩) id i3⟩, i4.trans (fa.below i4.size (fun _ _ h => h))⟩ ⟨V.heap.size, hsz, by simp [go_sem], rfl⟩
  case body =>
    rintro l' pre x a' V ⟨r, hr⟩ ⟨hx, hpre⟩ ⟨⟨⟨t, ht, i1⟩, i2, i3⟩, hB⟩ ⟨P, hP, hp0, rfl⟩ hsz
    have hlen : pre.length = n - (x + 1) := by rw [hpre, dwn_len]
    rw [hlen] at ht i1
    obtain ⟨C, hC⟩ : ∃ C, ctS hg us n st la (n - (x + 1)) = C := ⟨_, rfl⟩
    have hlen2 : (pre ++ [x]).length = (n - (x + 1)) + 1 := by simp [hlen]
    have hnew : ctS hg us n st la (pre ++ [x]).length = updC C x (ctV hg us n st la C x) := by
      rw [hlen2, ← hC]
      show updC _ (n - (n - (x + 1) + 1)) (ctV hg us n st la _ (n - (n - (x + 1) + 1))) = _
      rw [show n - (n - (x + 1) + 1) = x by omega]
    have hCb : ∀ k, C k ≤ 1000 := fun k => by have := ctS_le (h := hg) (u := us) (N := n) (st := st) (la := la) (n - (x + 1)) k; rw [hC] at this; omega
    have hCx : C x = 0 := by rw [← hC]; exact ctS_low (by omega) (by omega)
    rw [hC] at i1
    have hhx := h1 x hx
    have hkey := key_int x (by omega)
    have HAV := Lib.hid (HA.out.on hB)
    have HRF := Lib.hid (fun W (hA : JtAt W a n hg us) => reachFrom_any a n cap hg us fi st la x W hA hx hhx h2)
    have HLE := Lib.hid (fun W (hA : JtAt W a n hg us) (hC : Ic W (w.heap.size + 1) t C) => least_any a n cap hg us fi st la (hg x + st) (w.heap.size + 1) t (x + 1) C W hA hC hn (by omega) hCb)
    have HN := Lib.hid hnew
    have HI := Lib.hid i1
    have HB := Lib.hid hB
    have HR := Lib.hid i2
    have q0 := i2.g0
    have q1 := i2.g1
    have q2 := i2.g2
    have q3 := i2.g3
    clear hnew i1 hB i2 hpre hC
    have HEnd : Hid (∀ tt (w1 : World), tt ≤ n - (x + 1) + 1 → Fr (fun j => j = w.heap.size + 1) V w1 → Ic w1 (w.heap.size + 1) tt (updC C x (ctV hg us n st la C x)) →
        Fr (RndM NoZ3 (fun j => j = w.heap.size + 1) (W0.heap.size + 2 + 0) V) V w1 ∧ ((∃ t, t ≤ (pre ++ [x]).length ∧ Ic w1 (w.heap.size + 1) t (ctS hg us n st la (pre ++ [x]).length)) ∧ RtB w1 w.heap.size (.slice a n cap) fi st la ∧ w1.cell? ⟨w.heap.size + 1 + 1, 0, none⟩ = some (.map (some (w.heap.size + 1)))) ∧ Below w.heap.size w w1) :=
      Lib.hid fun tt w1 htt hf hI => ⟨hf.mono (fun j _ h => .inl h), ⟨⟨tt, by omega, by rw [HN.out]; exact hI⟩, HR.out.fr hf (by omega), hf.cell (p := ⟨w.heap.size + 1 + 1, 0, none⟩) (by simp) i3⟩, HB.out.trans (hf.below HB.out.size (fun j hj h => by omega))⟩
    by_cases hge : la ≤ hg x
    · have hv : ctV hg us n st la C x = 1 := if_pos hge
      rw [hv] at HEnd
      obtain ⟨D, d1, d2, d3, d4⟩ := HI.out
      have HD := Lib.hid d1
      have HP := Lib.hid (fun (W : World) ho => Ic.put (B := w.heap.size + 1) (t := t + 1) (W := W) (v := 1) (k := x) d2 d3 d4 (by omega) ho)
      clear d1 d2 d3 d4 hv
      gi_wp2_with (gi_at_mapUpdate; refine wpListIn_mapUpdate_own _ rfl _ _ _ 81 rfl 3 3 lawI Try.underlying81 _ (w.heap.size + 1) t _ rfl HD.out (by unfold maxLen; omega) _ _ _ rfl rfl hkey _ [] (plainElem_int Try.underlying3 (WalkArith.wf_i64 (by omega))) ?_; intro w1 hown1 hgrow1)
      exact HEnd.out _ _ (by omega) ((Fr.refl V).grown hgrow1 (fun k e => by cases e; exact .inl rfl)) (HP.out _ hown1)
    · have fd : Fr (fun _ => False) V V.drew := (Fr.refl V).drew
      have HAD := Lib.hid (HAV.out.fr fd (fun _ _ _ _ => id))
      have HID := Lib.hid (HI.out.fr fd id)
      clear fd
      have HL3 : Hid (∀ (w1 : World), Below V.drew.heap.size V.drew w1 → CallsIn (Fence.wide.inRound l') 3 Try.prog 72 #[.agg #[.slice a n cap, .int .i64 fi, .int .i64 st, .int .i64 la], .map (some (w.heap.size + 1)), .int .i64 (IntKind.i64.wrap ((x : Int) + 1)), .int .i64 (hg x + st)] w1 fun e w' => e = .returned (.int .i64 (lsL C (upT hg us n (hg x + st) (x + 1)) : Nat)) ∧ Below w1.heap.size w1 w') := by
        refine Lib.hid fun w1 hw1 => ?_
        have h := HLE.out w1 (HAD.out.on hw1) (HID.out.on hw1)
        rw [show ((x + 1 : Nat) : Int) = IntKind.i64.wrap ((x : Int) + 1) from (IntWalk.i64_in _ ⟨by omega, by omega⟩).symm] at h
        exact CallsIn.inRound l' (callsIn_wide.2 h)
      have HR3 : Hid (∀ w1, Below V.drew.heap.size V.drew w1 → CallsIn (Fence.wide.inRound l') 3 Try.prog 70 #[.agg #[.slice a n cap, .int .i64 fi, .int .i64 st, .int .i64 la], .int .i64 (x : Nat)] w1 fun e w' => e = .returned (.int .i64 (hg x + st)) ∧ Below w1.heap.size w1 w') := Lib.hid (fun w1 hw1 => CallsIn.inRound l' (callsIn_wide.2 (HRF.out _ (HAD.out.on hw1))))
      have hms : lsL C (upT hg us n (hg x + st) (x + 1)) ≤ 1000 := by
        by_cases h0 : lsL C (upT hg us n (hg x + st) (x + 1)) = 0
        · omega
        · obtain ⟨j, _, hj⟩ := ls_some h0
          have := hCb j
          omega
      obtain ⟨m, hm⟩ : ∃ m, lsL C (upT hg us n (hg x + st) (x + 1)) = m := ⟨_, rfl⟩
      have hv : ctV hg us n st la C x = if m = 0 then 0 else m + 1 := by unfold ctV; rw [if_neg hge, hm]
      rw [hm] at HL3 hms
      clear hm HRF HAV HA hCb hab ec eb er eI hA0 b0
      have HJ1 : Hid (∀ w1, Below V.drew.heap.size V.drew w1 → w1.cell? ⟨w.heap.size, 0, none⟩ = some (.slice a n cap) ∧ w1.cell? ⟨w.heap.size, 1, none⟩ = some (.int .i64 fi) ∧ w1.cell? ⟨w.heap.size, 2, none⟩ = some (.int .i64 st) ∧ w1.cell? ⟨w.heap.size, 3, none⟩ = some (.int .i64 la) ∧ w1.cell? ⟨w.heap.size + 1 + 1, 0, none⟩ = some (.map (some (w.heap.size + 1)))) := Lib.hid fun w1 hw1 => by
        have f := (Fr.refl (M := fun _ => False) V).drew.call hw1
        exact ⟨f.cell (p := ⟨w.heap.size, 0, none⟩) id q0, f.cell (p := ⟨w.heap.size, 1, none⟩) id q1, f.cell (p := ⟨w.heap.size, 2, none⟩) id q2, f.cell (p := ⟨w.heap.size, 3, none⟩) id q3, f.cell (p := ⟨w.heap.size + 1 + 1, 0, none⟩) id i3⟩
      gi_wp2
      refine wpIn_region_inv (by kernel_rfl) (fun L aa w' => L.size = 9 ∧ aa = { tmps := #[.agg #[.slice a n cap, .int .i64 fi, .int .i64 st, .int .i64 la], .pointer (some ⟨w.heap.size, 0, none⟩), .map none, .pointer (some ⟨w.heap.size + 1 + 1, 0, none⟩), .int .i64 (x : Nat), .pointer (some ⟨P, 0, none⟩), bif L.getD 8 false then .int .i64 (m : Nat) else undef, .map (some (w.heap.size + 1)), .pointer (some ⟨w.heap.size, 0, none⟩), .slice a n cap, .func (.func 81) #[] #[.pointer (some ⟨w.heap.size + 1 + 1 + 1, 0, none⟩)], .int .i64 (x : Nat), .agg #[.int .i64 (hg x), .bool (us x)], .pointer (some ⟨P, 0, none⟩), .int .i64 (hg x), .pointer (some ⟨w.heap.size, 3, none⟩), .int .i64 la, .bool false, undef, undef, bif L.getD 0 false then .agg #[.slice a n cap, .int .i64 fi, .int .i64 st, .int .i64 la] else undef, bif L.getD 1 false then .map (some (w.heap.size + 1)) else undef, bif L.getD 2 false then .int .i64 (x : Nat) else undef, bif L.getD 3 false then .int .i64 (IntKind.i64.wrap ((x : Int) + 1)) else undef, bif L.getD 4 false then .agg #[.slice a n cap, .int .i64 fi, .int .i64 st, .int .i64 la] else undef, bif L.getD 5 false then .int .i64 (x : Nat) else undef, bif L.getD 6 false then .int .i64 (hg x + st) else undef, bif L.getD 7 false then .int .i64 (m : Nat) else undef, undef, undef, undef, undef, undef, undef, undef], defers := [] } ∧ Below V.drew.heap.size V.drew w') ?fin ?step ?start
      case start => exact ⟨by simp, rfl, Below.refl _ _⟩
      case fin =>
        rintro L aa w2 ⟨hL, rfl, hB2⟩ hr2
        have hall := all_listed (by simpa using hL) (by kernel_rfl) hr2
        have e0 : L.getD 0 false = true := hall 0 (by simp)
        have e1 : L.getD 1 false = true := hall 1 (by simp)
        have e2 : L.getD 2 false = true := hall 2 (by simp)
        have e3 : L.getD 3 false = true := hall 3 (by simp)
        have e4 : L.getD 4 false = true := hall 4 (by simp)
        have e5 : L.getD 5 false = true := hall 5 (by simp)
        have e6 : L.getD 6 false = true := hall 6 (by simp)
        have e7 : L.getD 7 false = true := hall 7 (by simp)
        have e8 : L.getD 8 false = true := hall 8 (by simp)
        simp only [e0, e1, e2, e3, e4, e5, e6, e7, e8, cond_true]
        obtain ⟨j0, j1, j2, j3, j4⟩ := HJ1.out w2 hB2
        have f2 : Fr (fun _ => False) V w2 := (Fr.refl (M := fun _ => False) V).drew.call hB2
        have HI2 := Lib.hid (HI.out.fr f2 id)
        have HF2 := Lib.hid f2
        clear e0 e1 e2 e3 e4 e5 e6 e7 e8 hall hr2 hL L f2 HL3 HR3 HJ1
        rcases m with _ | m
        · have hv0 : ctV hg us n st la C x = 0 := by rw [hv, if_pos rfl]
          rw [hv0, updC_same hCx] at HEnd
          clear hv hv0
          gi_wp2
          exact HEnd.out t w2 (by omega) (HF2.out.mono fun _ _ h => h.elim) HI2.out
        · have hv0 : ctV hg us n st la C x = m + 2 := by rw [hv, if_neg (by omega)]
          rw [hv0] at HEnd
          have hmi : (0 : Int) < ((m + 1 : Nat) : Int) := by omega
          obtain ⟨D, d1, d2, d3, d4⟩ := HI2.out
          have HD := Lib.hid d1
          have HP := Lib.hid (fun (W : World) ho => Ic.put (B := w.heap.size + 1) (t := t + 1) (W := W) (v := m + 2) (k := x) d2 d3 d4 (by omega) ho)
          clear d1 d2 d3 d4 hv hv0
          gi_wp2_with (gi_at_mapUpdate; refine wpListIn_mapUpdate_own _ rfl _ _ _ 81 rfl 3 3 lawI Try.underlying81 _ (w.heap.size + 1) t _ rfl HD.out (by unfold maxLen; omega) _ _ _ rfl rfl hkey _ [] (plainElem_int Try.underlying3 (WalkArith.wf_i64 (by omega))) ?_; intro w3 hown3 hgrow3)
          exact HEnd.out _ _ (by omega) ((HF2.out.mono fun _ _ h => h.elim).grown hgrow3 (fun k e => by cases e; exact .inl rfl)) (HP.out _ hown3)
      case step =>
        clear HI HID hms hhx hkey HN HB HR hCx hlen hlen2 h1 h2 HAD HEnd hv
        rintro L aa w' ⟨hL, rfl, hB⟩ i hi
        have hlt : i < 9 := List.mem_range.1 (List.mem_filter.1 hi).1
        obtain ⟨j0, j1, j2, j3, j4⟩ := HJ1.out w' hB
        have ha := fun o ho => ready_after (o := o) hi ho
        have hset : ∀ j, (L.setIfInBounds i true).getD j false = if j = i then true else L.getD j false := fun j => getD_set (by omega)
        refine wpOpIn_mono (K := fun a' w2 => a' = { tmps := #[.agg #[.slice a n cap, .int .i64 fi, .int .i64 st, .int .i64 la], .pointer (some ⟨w.heap.size, 0, none⟩), .map none, .pointer (some ⟨w.heap.size + 1 + 1, 0, none⟩), .int .i64 (x : Nat), .pointer (some ⟨P, 0, none⟩), bif (if 8 = i then true else L.getD 8 false) then .int .i64 (m : Nat) else undef, .map (some (w.heap.size + 1)), .pointer (some ⟨w.heap.size, 0, none⟩), .slice a n cap, .func (.func 81) #[] #[.pointer (some ⟨w.heap.size + 1 + 1 + 1, 0, none⟩)], .int .i64 (x : Nat), .agg #[.int .i64 (hg x), .bool (us x)], .pointer (some ⟨P, 0, none⟩), .int .i64 (hg x), .pointer (some ⟨w.heap.size, 3, none⟩), .int .i64 la, .bool false, undef, undef, bif (if 0 = i then true else L.getD 0 false) then .agg #[.slice a n cap, .int .i64 fi, .int .i64 st, .int .i64 la] else undef, bif (if 1 = i then true else L.getD 1 false) then .map (some (w.heap.size + 1)) else undef, bif (if 2 = i then true else L.getD 2 false) then .int .i64 (x : Nat) else undef, bif (if 3 = i then true else L.getD 3 false) then .int .i64 (IntKind.i64.wrap ((x : Int) + 1)) else undef, bif (if 4 = i then true else L.getD 4 false) then .agg #[.slice a n cap, .int .i64 fi, .int .i64 st, .int .i64 la] else undef, bif (if 5 = i then true else L.getD 5 false) then .int .i64 (x : Nat) else undef, bif (if 6 = i then true else L.getD 6 false) then .int .i64 (hg x + st) else undef, bif (if 7 = i then true else L.getD 7 false) then .int .i64 (m : Nat) else undef, undef, undef, undef, undef, undef, undef, undef], defers := [] } ∧ Below V.drew.heap.size V.drew w2) (fun a' w2 h => ⟨by simp [hL], by simp only [hset]; exact h.1, h.2⟩) ?_
        have h9 : i = 0 ∨ i = 1 ∨ i = 2 ∨ i = 3 ∨ i = 4 ∨ i = 5 ∨ i = 6 ∨ i = 7 ∨ i = 8 := by omega
        rcases h9 with rfl | rfl | rfl | rfl | rfl | rfl | rfl | rfl | rfl
        · clear hset hi
          clear ha
          refine wpOpIn_step rfl (fun K hK => ?_)
          generalize L.getD 0 false = b0 at hK ⊢
          generalize L.getD 1 false = b1 at hK ⊢
          generalize L.getD 2 false = b2 at hK ⊢
          generalize L.getD 3 false = b3 at hK ⊢
          generalize L.getD 4 false = b4 at hK ⊢
          generalize L.getD 5 false = b5 at hK ⊢
          generalize L.getD 6 false = b6 at hK ⊢
          generalize L.getD 7 false = b7 at hK ⊢
          generalize L.getD 8 false = b8 at hK ⊢
          go_simp
          exact hK _ _ ⟨rfl, hB⟩
        · clear hset hi
          clear ha
          refine wpOpIn_step rfl (fun K hK => ?_)
          generalize L.getD 0 false = b0 at hK ⊢
          generalize L.getD 1 false = b1 at hK ⊢
          generalize L.getD 2 false = b2 at hK ⊢
          generalize L.getD 3 false = b3 at hK ⊢
          generalize L.getD 4 false = b4 at hK ⊢
          generalize L.getD 5 false = b5 at hK ⊢
          generalize L.getD 6 false = b6 at hK ⊢
          generalize L.getD 7 false = b7 at hK ⊢
          generalize L.getD 8 false = b8 at hK ⊢
          go_simp
          exact hK _ _ ⟨rfl, hB⟩
        · clear hset hi
          clear ha
          refine wpOpIn_step rfl (fun K hK => ?_)
          generalize L.getD 0 false = b0 at hK ⊢
          generalize L.getD 1 false = b1 at hK ⊢
          generalize L.getD 2 false = b2 at hK ⊢
          generalize L.getD 3 false = b3 at hK ⊢
          generalize L.getD 4 false = b4 at hK ⊢
          generalize L.getD 5 false = b5 at hK ⊢
          generalize L.getD 6 false = b6 at hK ⊢
          generalize L.getD 7 false = b7 at hK ⊢
          generalize L.getD 8 false = b8 at hK ⊢
          go_simp
          exact hK _ _ ⟨rfl, hB⟩
        · clear hset hi
          have p2 : L.getD 2 false = true := ha _ rfl ⟨2, .data⟩ (by simp) rfl
          clear ha
          refine wpOpIn_step rfl (fun K hK => ?_)
          simp only [p2] at hK ⊢
          clear p2
          generalize L.getD 0 false = b0 at hK ⊢
          generalize L.getD 1 false = b1 at hK ⊢
          generalize L.getD 3 false = b3 at hK ⊢
          generalize L.getD 4 false = b4 at hK ⊢
          generalize L.getD 5 false = b5 at hK ⊢
          generalize L.getD 6 false = b6 at hK ⊢
          generalize L.getD 7 false = b7 at hK ⊢
          generalize L.getD 8 false = b8 at hK ⊢
          go_simp
          exact hK _ _ ⟨rfl, hB⟩
        · clear hset hi
          clear ha
          refine wpOpIn_step rfl (fun K hK => ?_)
          generalize L.getD 0 false = b0 at hK ⊢
          generalize L.getD 1 false = b1 at hK ⊢
          generalize L.getD 2 false = b2 at hK ⊢
          generalize L.getD 3 false = b3 at hK ⊢
          generalize L.getD 4 false = b4 at hK ⊢
          generalize L.getD 5 false = b5 at hK ⊢
          generalize L.getD 6 false = b6 at hK ⊢
          generalize L.getD 7 false = b7 at hK ⊢
          generalize L.getD 8 false = b8 at hK ⊢
          go_simp
          exact hK _ _ ⟨rfl, hB⟩
        · clear hset hi
          clear ha
          refine wpOpIn_step rfl (fun K hK => ?_)
          generalize L.getD 0 false = b0 at hK ⊢
          generalize L.getD 1 false = b1 at hK ⊢
          generalize L.getD 2 false = b2 at hK ⊢
          generalize L.getD 3 false = b3 at hK ⊢
          generalize L.getD 4 false = b4 at hK ⊢
          generalize L.getD 5 false = b5 at hK ⊢
          generalize L.getD 6 false = b6 at hK ⊢
          generalize L.getD 7 false = b7 at hK ⊢
          generalize L.getD 8 false = b8 at hK ⊢
          go_simp
          exact hK _ _ ⟨rfl, hB⟩
        · clear hset hi
          have p4 : L.getD 4 false = true := ha _ rfl ⟨4, .data⟩ (by simp) rfl
          have p5 : L.getD 5 false = true := ha _ rfl ⟨5, .data⟩ (by simp) rfl
          clear ha
          refine wpOpIn_step rfl (fun K hK => ?_)
          simp only [p4, p5] at hK ⊢
          clear p4 p5
          generalize L.getD 0 false = b0 at hK ⊢
          generalize L.getD 1 false = b1 at hK ⊢
          generalize L.getD 2 false = b2 at hK ⊢
          generalize L.getD 3 false = b3 at hK ⊢
          generalize L.getD 6 false = b6 at hK ⊢
          generalize L.getD 7 false = b7 at hK ⊢
          generalize L.getD 8 false = b8 at hK ⊢
          go_simp
          refine ⟨trivial, (HR3.out _ hB).mono ?_⟩
          rintro e w2 ⟨rfl, hw2⟩
          exact hK _ _ ⟨rfl, hB.trans (hw2.mono hB.size)⟩
        · clear hset hi
          have p0 : L.getD 0 false = true := ha _ rfl ⟨0, .data⟩ (by simp) rfl
          have p1 : L.getD 1 false = true := ha _ rfl ⟨1, .data⟩ (by simp) rfl
          have p3 : L.getD 3 false = true := ha _ rfl ⟨3, .data⟩ (by simp) rfl
          have p6 : L.getD 6 false = true := ha _ rfl ⟨6, .data⟩ (by simp) rfl
          clear ha
          refine wpOpIn_step rfl (fun K hK => ?_)
          simp only [p0, p1, p3, p6] at hK ⊢
          clear p0 p1 p3 p6
          generalize L.getD 2 false = b2 at hK ⊢
          generalize L.getD 4 false = b4 at hK ⊢
          generalize L.getD 5 false = b5 at hK ⊢
          generalize L.getD 7 false = b7 at hK ⊢
          generalize L.getD 8 false = b8 at hK ⊢
          go_simp
          refine ⟨trivial, (HL3.out _ hB).mono ?_⟩
          rintro e w2 ⟨rfl, hw2⟩
          exact hK _ _ ⟨rfl, hB.trans (hw2.mono hB.size)⟩
        · clear hset hi
          have p7 : L.getD 7 false = true := ha _ rfl ⟨7, .data⟩ (by simp) rfl
          clear ha
          refine wpOpIn_step rfl (fun K hK => ?_)
          simp only [p7] at hK ⊢
          clear p7
          generalize L.getD 0 false = b0 at hK ⊢
          generalize L.getD 1 false = b1 at hK ⊢
          generalize L.getD 2 false = b2 at hK ⊢
          generalize L.getD 3 false = b3 at hK ⊢
          generalize L.getD 4 false = b4 at hK ⊢
          generalize L.getD 5 false = b5 at hK ⊢
          generalize L.getD 6 false = b6 at hK ⊢
          generalize L.getD 8 false = b8 at hK ⊢
          go_simp
          exact hK _ _ ⟨rfl, hB⟩
  case done =>
    rintro D ys V hD rfl ⟨⟨⟨t, ht, h1⟩, h2, h3⟩, hB⟩ hK
    rw [dwn_len] at ht h1
    have HB := Lib.hid hB
    have HI := Lib.hid h1
    have HKd := Lib.hid hK
    clear hB hK h2 h1
    gi_wp2
    go_wp2
    refine ⟨by simp, .inl ⟨_, _, rfl, run_takeDeferred HKd.out, ?_⟩⟩
    have fp : Fr (fun j => j = D) V (V.putObj D (.deferred none)) := Fr.put V D _
    exact ⟨_, results_tmp rfl _ _ _, ⟨_, t, rfl, by omega, by omega, HI.out.fr fp (by omega)⟩, HB.out.trans (fp.below HB.out.size (fun j h h' => by omega))⟩
  case stop =>
    rintro D c pre X _ _ h _
    exact h.elim
end Go.Proofs.Ytbjdojcenflliaa
