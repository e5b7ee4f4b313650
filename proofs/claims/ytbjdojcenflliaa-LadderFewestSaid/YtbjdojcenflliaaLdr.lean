/- Right, in the program and in the reference. -/
import Derived.Test.YtbjdojcenflliaaLde
namespace Go.Proofs.Ytbjdojcenflliaa
open Go.RowKit Go.Shelf
attribute [local go_sem] Oper.semAt_some
attribute [local go_sem] After.cell After.frozen After.lt After.le After.ne After.ne' After.set_eq After.size_set After.lt_add

/-- A list of numbers in memory. -/
def DAt (W : World) (a : Option Addr) (m : Nat) (d : Nat → Int) : Prop := ∀ k, k < m → ∃ b off, a = some ⟨b, off, none⟩ ∧ b < W.heap.size ∧ W.cell? ⟨b, off + k, none⟩ = some (.int .i64 (d k))
theorem DAt.on {w W : World} {a : Option Addr} {m : Nat} {d : Nat → Int} (h : DAt w a m d) (hb : Below w.heap.size w W) : DAt W a m d := fun k hk => by
  obtain ⟨b, off, e, h1, h2⟩ := h k hk
  exact ⟨b, off, e, Nat.lt_of_lt_of_le h1 hb.size, (hb.cell (p := ⟨b, off + k, none⟩) h1).trans h2⟩
theorem DAt.fr {M : Nat → Prop} {w W : World} {a : Option Addr} {m : Nat} {d : Nat → Int} (h : DAt w a m d) (hf : Fr M w W) (hM : ∀ b off, a = some ⟨b, off, none⟩ → 0 < m → ¬ M b) : DAt W a m d := fun k hk => by
  obtain ⟨b, off, e, h1, h2⟩ := h k hk
  exact ⟨b, off, e, Nat.lt_of_lt_of_le h1 hf.size, hf.cell (p := ⟨b, off + k, none⟩) (hM b off e (by omega)) h2⟩
/-- From where the k-th one of a list may be, and up to which height. -/
def frD (d : Nat → Int) (k : Nat) : Int := if k = 0 then 0 else d (k - 1) + 1
def htD (hg : Nat → Int) (fi st : Int) (d : Nat → Int) (k : Nat) : Int := if k = 0 then fi else hg (d (k - 1)).toNat + st
def StD (hg : Nat → Int) (us : Nat → Bool) (n : Nat) (fi st : Int) (d : Nat → Int) (k : Nat) : Prop := Bt3 (d k) (frD d k) ((n : Int) - 1) ∧ us (d k).toNat = true ∧ hg (d k).toNat ≤ htD hg fi st d k
instance (hg : Nat → Int) (us : Nat → Bool) (n : Nat) (fi st : Int) (d : Nat → Int) (k : Nat) : Decidable (StD hg us n fi st d k) := by unfold StD; infer_instance
/-- The list is one that the rules allow. -/
def RtP (hg : Nat → Int) (us : Nat → Bool) (n : Nat) (fi st la : Int) (m : Nat) (d : Nat → Int) : Prop := (∀ k, k < m → StD hg us n fi st d k) ∧ 0 < m ∧ la ≤ hg (d (m - 1)).toNat
instance (hg : Nat → Int) (us : Nat → Bool) (n : Nat) (fi st la : Int) (m : Nat) (d : Nat → Int) : Decidable (RtP hg us n fi st la m d) := by unfold RtP; infer_instance
theorem stD_low {hg : Nat → Int} {us : Nat → Bool} {n : Nat} {fi st : Int} {d : Nat → Int} {m : Nat} (h : ∀ k, k < m → StD hg us n fi st d k) : ∀ k, k < m → 0 ≤ d k ∧ d k < n := fun k => by
  induction k with
  | zero => intro hk; have := (h 0 hk).1; unfold Bt3 frD at this; simp at this; omega
  | succ k ih =>
    intro hk
    have h1 := ih (by omega)
    have := (h (k + 1) hk).1
    unfold Bt3 frD at this
    rw [if_neg (by omega), Nat.add_sub_cancel] at this
    omega
set_option maxRecDepth 100000 in
set_option maxHeartbeats 2000000 in
theorem right_any (a : Option Addr) (n cap : Nat) (hg : Nat → Int) (us : Nat → Bool) (fi st la : Int) (da : Option Addr) (m dc : Nat) (d : Nat → Int) (w : World) (hA : JtAt w a n hg us) (hD : DAt w da m d) (hn : n ≤ 1000) (hm : m ≤ 1000000) (h1 : ∀ k < n, -1000000 ≤ hg k ∧ hg k ≤ 1000000) (h2 : -1000000 ≤ st ∧ st ≤ 1000000) :
    Calls Try.prog 51 #[.agg #[.slice a n cap, .int .i64 fi, .int .i64 st, .int .i64 la], .slice da m dc] w fun e w' => e = .returned (.bool (decide (RtP hg us n fi st la m d))) ∧ Below w.heap.size w w' := by
  have HA := Lib.hid hA
  have HD := Lib.hid hD
  have hnI : (n : Int) ≤ 1000 := by omega
  have hmI : (m : Int) ≤ 1000000 := by omega
  clear hA hD
  go_enter Try.func51, Try.ntmps51
  go_wp2
  obtain ⟨W0, hW0⟩ : ∃ W0, w.alloc (.cells #[.slice a n cap, .int .i64 fi, .int .i64 st, .int .i64 la] 60) = W0 := ⟨_, rfl⟩
  have b0 : Below w.heap.size w W0 := by rw [← hW0]; (repeat' (first | (with_reducible exact Below.refl _ _) | (with_reducible assumption) | (with_reducible refine Below.alloc ?_ ?_ _) | (with_reducible refine Below.drew ?_) | (with_reducible refine below_drewN ?_ _) | (with_reducible refine Below.setCell ?_ ?_ _) | (with_reducible refine below_after ?_ ?_ _) | (with_reducible refine below_set ?_) | (with_reducible refine After.size_le _ ?_) | (with_reducible refine size_alloc_le ?_) | (with_reducible refine size_set_le ?_) | (with_reducible refine size_drewN_le ?_) | go_size))
  have er := rtB_new w 60 (.slice a n cap) fi st la
  rw [hW0] at er
  rw [hW0]
  have g0 := er.g0
  have g1 := er.g1
  have g2 := er.g2
  have g3 := er.g3
  have HB0 := Lib.hid b0
  have HR0 := Lib.hid er
  clear er hW0 b0
  have HBd := Lib.hid (HB0.out.trans (((Fr.refl (M := fun _ => False) W0).drew).below HB0.out.size (fun _ _ h => h)))
  have HRd := Lib.hid (HR0.out.fr ((Fr.refl (M := fun _ => False) W0).drew) id)
  clear HB0 HR0
  go_region
  go_wp2
  go_loopw [5, 6, 13] (fun f h i W => ∃ k : Nat, k ≤ m ∧ i = .int .i64 k ∧ f = .int .i64 (frD d k) ∧ h = .int .i64 (htD hg fi st d k) ∧ Hid (∀ j, j < k → StD hg us n fi st d j) ∧ Hid (Below w.heap.size w W ∧ RtB W w.heap.size (.slice a n cap) fi st la)) (fun _ _ i _ => m - (intOf i).toNat)
  case atStart => exact ⟨0, Nat.zero_le _, rfl, rfl, rfl, Lib.hid (fun i hi => by omega), Lib.hid ⟨HBd.out, HRd.out⟩⟩
  case round =>
    clear g0 g1 g2 g3 HBd HRd
    obtain ⟨k, hk, rfl, rfl, rfl, HT, HI⟩ := hrel
    have g0 := HI.out.2.g0
    have g1 := HI.out.2.g1
    have g2 := HI.out.2.g2
    have g3 := HI.out.2.g3
    by_cases hlt : k < m
    · have hlti : (k : Int) < (m : Int) := by omega
      obtain ⟨db, do', rfl, hdb, dk⟩ := (HD.out.on HI.out.1) k hlt
      have HN1 : Hid (frD d (k + 1) = d k + 1) := Lib.hid (by unfold frD; rw [if_neg (by omega), Nat.add_sub_cancel])
      have HN2 : Hid (htD hg fi st d (k + 1) = hg (d k).toNat + st) := Lib.hid (by unfold htD; rw [if_neg (by omega), Nat.add_sub_cancel])
      have HF : Hid (¬ StD hg us n fi st d k → decide (RtP hg us n fi st la m d) = false) := Lib.hid (fun h => decide_eq_false fun q => h (q.1 k hlt))
      have HG : Hid (StD hg us n fi st d k → ∀ j, j < k + 1 → StD hg us n fi st d j) := Lib.hid (fun h j hj => by
        by_cases e : j = k
        · subst e; exact h
        · exact HT.out j (by omega))
      have HS : Hid (StD hg us n fi st d k ↔ Bt3 (d k) (frD d k) ((n : Int) - 1) ∧ us (d k).toNat = true ∧ hg (d k).toNat ≤ htD hg fi st d k) := Lib.hid Iff.rfl
      have hf0 : 0 ≤ frD d k := by
        unfold frD
        split
        · omega
        · have := stD_low HT.out (k - 1) (by omega); omega
      have HJ := Lib.hid (HA.out.on HI.out.1)
      generalize frD d k = fk at *
      generalize htD hg fi st d k = tk at *
      generalize d k = dv at *
      cases hq : decide (Bt3 dv fk ((n : Int) - 1))
      · have HV := Lib.hid (HF.out (fun h => absurd (HS.out.1 h).1 (of_decide_eq_false hq)))
        have HB := Lib.hid (fun W => between3_b dv fk ((n : Int) - 1) W hq)
        clear hq HG HF HT HS
        go_wp2_with (first | (go_at_call 47; refine (HB.out _).mono ?_; rintro e w' ⟨rfl, rfl⟩))
        go_returns
        exact ⟨by rw [HV.out]; rfl, HI.out.1⟩
      · have HB := Lib.hid (fun W => between3_b dv fk ((n : Int) - 1) W hq)
        have hbt := of_decide_eq_true hq
        obtain ⟨j, rfl⟩ : ∃ j : Nat, dv = (j : Nat) := ⟨dv.toNat, by unfold Bt3 at hbt; omega⟩
        have hjn : j < n := by unfold Bt3 at hbt; omega
        have hjI : (j : Int) < (n : Int) := by omega
        obtain ⟨b, off, rfl, hb, c0, c1⟩ := HJ.out j hjn
        have HRc := Lib.hid (fun W hW => reachFrom_any (some ⟨b, off, none⟩) n cap hg us fi st la j W hW hjn (h1 j hjn) h2)
        rw [show ((j : Int)).toNat = j from rfl] at HS HN2
        cases hu : us j
        · have HV := Lib.hid (HF.out (fun h => by have := (HS.out.1 h).2.1; rw [hu] at this; cases this))
          rw [hu] at c1
          clear hu hq hbt HG HF HT HS HRc
          go_wp2_with (first | (go_at_call 47; refine (HB.out _).mono ?_; rintro e w' ⟨rfl, rfl⟩))
          go_returns
          exact ⟨by rw [HV.out]; rfl, HI.out.1⟩
        · by_cases hle : hg j ≤ tk
          · have HV := Lib.hid (HG.out (HS.out.2 ⟨hbt, hu, hle⟩))
            rw [hu] at c1
            clear hu hq hbt HG HF HT HS
            go_wp2_with (first | (go_at_call 47; refine (HB.out _).mono ?_; rintro e w' ⟨rfl, rfl⟩) | (go_at_call 70; refine (HRc.out _ HJ.out).mono ?_; rintro e w4 ⟨rfl, hb4⟩; have HI4 : Hid (Below w.heap.size w w4 ∧ RtB w4 w.heap.size (.slice (some ⟨b, off, none⟩) n cap) fi st la) := Lib.hid ⟨HI.out.1.trans (hb4.mono HI.out.1.size), HI.out.2.on hb4⟩; clear hb4))
            go_roundw
            case rel => exact ⟨k + 1, by omega, by go_num, by rw [HN1.out], by rw [HN2.out], HV, HI4⟩
            case measure => simp [intOf]; omega
          · have HV := Lib.hid (HF.out (fun h => hle (HS.out.1 h).2.2))
            rw [hu] at c1
            clear hu hq hbt HG HF HT HS HRc
            go_wp2_with (first | (go_at_call 47; refine (HB.out _).mono ?_; rintro e w' ⟨rfl, rfl⟩))
            go_returns
            exact ⟨by rw [HV.out]; rfl, HI.out.1⟩
    · obtain rfl : k = m := by omega
      have HId : Hid (Below w.heap.size w wr.drew) := Lib.hid (HI.out.1.trans (((Fr.refl (M := fun _ => False) wr).drew).below HI.out.1.size (fun _ _ h => h)))
      rcases k with _ | k
      · have HV : Hid (decide (RtP hg us n fi st la 0 d) = false) := Lib.hid (decide_eq_false fun h => absurd h.2.1 (by omega))
        go_wp2
        go_region
        go_wp2
        go_returns
        exact ⟨by rw [HV.out]; rfl, HId.out⟩
      · have hlow := stD_low HT.out k (by omega)
        have hfr : frD d (k + 1) = d k + 1 := by unfold frD; rw [if_neg (by omega), Nat.add_sub_cancel]
        have HV : Hid (decide (RtP hg us n fi st la (k + 1) d) = decide (la ≤ hg (d k).toNat)) := Lib.hid (by
          rw [Bool.eq_iff_iff]
          simp only [decide_eq_true_eq]
          exact ⟨fun h => h.2.2, fun h => ⟨HT.out, by omega, h⟩⟩)
        rw [hfr]
        clear hfr HT
        generalize d k = dv at *
        obtain ⟨j, rfl⟩ : ∃ j : Nat, dv = (j : Nat) := ⟨dv.toNat, by omega⟩
        rw [show ((j : Int)).toNat = j from rfl] at HV
        have hjI : (j : Int) < (n : Int) := by omega
        obtain ⟨b, off, rfl, hb, c0, c1⟩ := (HA.out.on HI.out.1) j (by omega)
        have hk0 : (0 : Int) < ((k : Int) + 1) := by omega
        go_wp2
        go_region
        go_wp2
        go_returns
        exact ⟨by rw [HV.out]; rfl, HId.out⟩
set_option maxRecDepth 100000 in
set_option maxHeartbeats 2000000 in
theorem Right_any (fi ga tp le lp sg : Int) (a : Option Addr) (n cap : Nat) (hg : Nat → Int) (sd : Nat → Bool) (da : Option Addr) (m dc : Nat) (d : Nat → Int) (w : World) (hA : JtAt w a n hg sd) (hD : DAt w da m d) (hn : n ≤ 9223372036854775807) (hm : m ≤ 1000000) :
    Calls Try.prog 19 #[.agg #[.int .i64 fi, .int .i64 ga, .int .i64 tp, .int .i64 le, .int .i64 lp, .int .i64 sg], .slice a n cap, .slice da m dc] w fun e w' => e = .returned (.bool (decide ((VcP fi ga tp le lp sg ∧ VjP n hg) ∧ RtP hg sd n fi ga (tp - ga) m d))) ∧ Below w.heap.size w w' := by
  have HV := Lib.hid (fun W (hW : Below w.heap.size w W) => wvalid_any fi ga tp le lp sg a n cap hg sd W (hA.on hW) hn)
  have HA := Lib.hid hA
  have HD := Lib.hid hD
  by_cases hv : VcP fi ga tp le lp sg ∧ VjP n hg
  · have hd : (decide (VcP fi ga tp le lp sg) && decide (VjP n hg)) = true := by simp [hv]
    rw [hd] at HV
    have hn2 : n ≤ 1000 := by have := hv.2.1; omega
    have hga : 1 ≤ ga ∧ ga ≤ 200000 := hv.1.2.1
    have htp : 1 ≤ tp ∧ tp ≤ 200000 := hv.1.2.2.1
    have HF := Lib.hid (fun W hW => forDogs_any fi ga tp le lp sg a n cap hg sd W hW hn hn2 hga htp)
    have HR := Lib.hid (fun a cap W hW hD => right_any a n cap hg sd fi ga (tp - ga) da m dc d W hW hD hn2 hm (fun k hk => by have := vjT_pos hv.2.2 hk; omega) (by omega))
    have HX : Hid (decide ((VcP fi ga tp le lp sg ∧ VjP n hg) ∧ RtP hg sd n fi ga (tp - ga) m d) = decide (RtP hg sd n fi ga (tp - ga) m d)) := Lib.hid (by simp [hv])
    clear hA hD hga htp hd hv
    go_enter Try.func19, Try.ntmps19
    go_wp2_with fail
    refine calls_after (HV.out _ (by (repeat' (first | (with_reducible exact Below.refl _ _) | (with_reducible assumption) | (with_reducible refine Below.alloc ?_ ?_ _) | (with_reducible refine Below.drew ?_) | (with_reducible refine below_drewN ?_ _) | (with_reducible refine Below.setCell ?_ ?_ _) | (with_reducible refine below_after ?_ ?_ _) | (with_reducible refine below_set ?_) | (with_reducible refine After.size_le _ ?_) | (with_reducible refine size_alloc_le ?_) | (with_reducible refine size_set_le ?_) | (with_reducible refine size_drewN_le ?_) | go_size)))) ?_
    intro x1
    go_wp2_with fail
    have HB2 : Hid (Below w.heap.size w x1.w) := Lib.hid (by (repeat' (first | (with_reducible exact Below.refl _ _) | (with_reducible assumption) | (with_reducible refine Below.alloc ?_ ?_ _) | (with_reducible refine Below.drew ?_) | (with_reducible refine below_drewN ?_ _) | (with_reducible refine Below.setCell ?_ ?_ _) | (with_reducible refine below_after ?_ ?_ _) | (with_reducible refine below_set ?_) | (with_reducible refine After.size_le _ ?_) | (with_reducible refine size_alloc_le ?_) | (with_reducible refine size_set_le ?_) | (with_reducible refine size_drewN_le ?_) | go_size)))
    refine (HF.out _ (HA.out.on HB2.out)).mono ?_
    rintro e w3 ⟨⟨v3, rfl, ho3⟩, hb3⟩
    have HB3 := Lib.hid (HB2.out.trans (hb3.mono HB2.out.size))
    obtain ⟨a3, cap3, rfl, hj3, _⟩ := jt_row ho3
    have HJ3 := Lib.hid hj3
    clear hb3 hj3 ho3
    go_wp2_with fail
    refine (HR.out a3 cap3 w3 HJ3.out (HD.out.on HB3.out)).mono ?_
    rintro e w4 ⟨rfl, hb4⟩
    have HB4 := Lib.hid (HB3.out.trans (hb4.mono HB3.out.size))
    clear hb4
    generalize decide (RtP hg sd n fi ga (tp - ga) m d) = q at *
    go_wp2
    go_returns
    exact ⟨by rw [HX.out]; rfl, HB4.out⟩
  · have hd : (decide (VcP fi ga tp le lp sg) && decide (VjP n hg)) = false := by
      rw [← Bool.not_eq_true, Bool.and_eq_true, decide_eq_true_eq, decide_eq_true_eq]; exact hv
    rw [hd] at HV
    have HX : Hid (decide ((VcP fi ga tp le lp sg ∧ VjP n hg) ∧ RtP hg sd n fi ga (tp - ga) m d) = false) := Lib.hid (decide_eq_false fun h => hv h.1)
    clear hA hD hd hv
    go_enter Try.func19, Try.ntmps19
    go_wp2_with fail
    refine calls_after (HV.out _ (by (repeat' (first | (with_reducible exact Below.refl _ _) | (with_reducible assumption) | (with_reducible refine Below.alloc ?_ ?_ _) | (with_reducible refine Below.drew ?_) | (with_reducible refine below_drewN ?_ _) | (with_reducible refine Below.setCell ?_ ?_ _) | (with_reducible refine below_after ?_ ?_ _) | (with_reducible refine below_set ?_) | (with_reducible refine After.size_le _ ?_) | (with_reducible refine size_alloc_le ?_) | (with_reducible refine size_set_le ?_) | (with_reducible refine size_drewN_le ?_) | go_size)))) ?_
    intro x1
    go_wp2
    go_returns
    exact ⟨by rw [HX.out]; rfl, by (repeat' (first | (with_reducible exact Below.refl _ _) | (with_reducible assumption) | (with_reducible refine Below.alloc ?_ ?_ _) | (with_reducible refine Below.drew ?_) | (with_reducible refine below_drewN ?_ _) | (with_reducible refine Below.setCell ?_ ?_ _) | (with_reducible refine below_after ?_ ?_ _) | (with_reducible refine below_set ?_) | (with_reducible refine After.size_le _ ?_) | (with_reducible refine size_alloc_le ?_) | (with_reducible refine size_set_le ?_) | (with_reducible refine size_drewN_le ?_) | go_size))⟩
end Go.Proofs.Ytbjdojcenflliaa
