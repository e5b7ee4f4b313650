/- The first day on which too little is left: the program's Retires; how what is left falls. -/
import Derived.Test.YtnhkkboddoiinaaLeftb
namespace Go.Proofs.Ytnhkkboddoiinaa
open Go.RowKit Go.Shelf
attribute [local go_sem] After.cell After.frozen After.lt After.le After.ne After.ne' After.set_eq After.size_set After.lt_add

/-! ### Plain mathematics -/
def fstB (B : Nat → Bool) : Nat → Nat → Nat
  | i, 0 => i
  | i, f + 1 => if B i then i else fstB B (i + 1) f
theorem fstB_spec (B : Nat → Bool) : ∀ (f i : Nat), i ≤ fstB B i f ∧ fstB B i f ≤ i + f ∧ (∀ j, i ≤ j → j < fstB B i f → B j = false) ∧ (fstB B i f < i + f → B (fstB B i f) = true)
  | 0, i => ⟨Nat.le_refl _, Nat.le_refl _, fun j h1 h2 => absurd h2 (by unfold fstB; omega), fun h => absurd h (by unfold fstB; omega)⟩
  | f + 1, i => by
    unfold fstB
    cases hb : B i with
    | true => simp [hb]; exact fun j h1 h2 => absurd h2 (by omega)
    | false =>
      obtain ⟨h1, h2, h3, h4⟩ := fstB_spec B f (i + 1)
      simp
      refine ⟨by omega, by omega, fun j hj1 hj2 => ?_, fun h => h4 (by omega)⟩
      rcases Nat.lt_or_ge i j with h5 | h5
      · exact h3 j (by omega) hj2
      · obtain rfl : j = i := by omega
        exact hb
theorem csum_filter_mono {s : Int} (hs : 1 ≤ s) {a b : Int} (hab : a ≤ b) : ∀ ps : List (Int × Int), (∀ p ∈ ps, Ld p.2) → csum s (upD a ps) ≤ csum s (upD b ps)
  | [], _ => by simp [upD, csum]
  | p :: ps, h => by
    have h1 := csum_filter_mono hs hab ps (fun q hq => h q (List.mem_cons_of_mem _ hq))
    have h2 := (cst_bd hs (h p List.mem_cons_self)).1
    have h3 := (csum_bd hs (upD b ps) (fun q hq => h q (List.mem_cons_of_mem _ (List.mem_filter.1 hq).1))).1
    unfold upD at *
    by_cases c1 : p.1 ≤ a
    · have c2 : p.1 ≤ b := by omega
      simp only [List.filter_cons, c1, c2, decide_true, if_true, csum, List.map_cons, List.sum_cons] at *
      omega
    · by_cases c2 : p.1 ≤ b
      · simp only [List.filter_cons, c1, c2, decide_true, decide_false, if_true, csum, List.map_cons, List.sum_cons] at *
        simp at *
        omega
      · simp only [List.filter_cons, c1, c2, decide_false, csum] at *
        simpa using h1
theorem lft_mono {s dl a b : Int} {ps : List (Int × Int)} (hs : 1 ≤ s) (hU : GoodU ps) (hd : 0 ≤ dl) (hab : a ≤ b) : lft s dl b ps ≤ lft s dl a ps := by
  have h1 := csum_filter_mono hs hab ps (goodU_all hU)
  have h2 : dl * a ≤ dl * b := Int.mul_le_mul_of_nonneg_left hab hd
  unfold lft leftN; omega
theorem lft_more {s dl d : Int} {ps : List (Int × Int)} {p : Int × Int} (hs : 1 ≤ s) (hp : Ld p.2) : lft s dl d (ps ++ [p]) ≤ lft s dl d ps := by
  have h2 := (cst_bd hs hp).1
  unfold lft leftN
  rw [upD_snoc]
  split
  · rw [csum_snoc]; omega
  · exact Int.le_refl _

/-- Too little is left on the day i. -/
def rtB (s d l : Int) (ps : List (Int × Int)) (i : Nat) : Bool := decide (lft s d i ps < l)
def rtN (s d l : Int) (ps : List (Int × Int)) : Nat := fstB (rtB s d l ps) 0 100001
theorem rtB_mono {s d l : Int} {ps : List (Int × Int)} (hG : GoodW s d l ps) {i j : Nat} (h : i ≤ j) (hb : rtB s d l ps i = true) : rtB s d l ps j = true := by
  have := lft_mono (s := s) (dl := d) (a := i) (b := j) hG.1.1.1 hG.2 hG.1.2.1.1 (by omega)
  unfold rtB at *
  simp at *; omega
theorem rtN_spec {s d l : Int} {ps : List (Int × Int)} (hG : GoodW s d l ps) : rtN s d l ps ≤ 100001 ∧ (∀ i, i < rtN s d l ps → rtB s d l ps i = false) ∧ (∀ i, rtN s d l ps ≤ i → i < 100001 → rtB s d l ps i = true) := by
  obtain ⟨h1, h2, h3, h4⟩ := fstB_spec (rtB s d l ps) 100001 0
  exact ⟨by unfold rtN; omega, fun i hi => h3 i (by omega) hi, fun i hi hin => rtB_mono hG hi (h4 (by unfold rtN at hi; omega))⟩
def rtV (s d l : Int) (ps : List (Int × Int)) : Int := if GoodW s d l ps ∧ rtN s d l ps ≤ 100000 then rtN s d l ps else 0
def rtE (s d l : Int) (ps : List (Int × Int)) : Int := if GoodW s d l ps then if rtN s d l ps ≤ 100000 then 0 else 8 else 1

set_option maxRecDepth 100000 in
set_option maxHeartbeats 1000000 in
theorem retires1_any (s d l : Int) (v : Value) (ps : List (Int × Int)) (i wb : Nat) (w : World) (h : Prc w w.heap.size v ps) (hG : GoodW s d l ps) (hi : i ≤ 100000)
    (h0 : w.cell? ⟨wb, 0, none⟩ = some (.int .i64 s)) (h1 : w.cell? ⟨wb, 1, none⟩ = some (.int .i64 d)) (h2 : w.cell? ⟨wb, 2, none⟩ = some (.int .i64 l)) (h3 : w.cell? ⟨wb, 3, none⟩ = some v) :
    Calls Try.prog 89 #[.int .i64 i, .pointer (some ⟨wb, 0, none⟩)] w fun e w' => e = .returned (.bool (rtB s d l ps i)) ∧ Below w.heap.size w w' := by
  obtain ⟨a, cap, hv⟩ := prc_slice h
  have HL : Hid (∀ W, Below w.heap.size w W → _) := fun W hW => wleft_any s d l i v ps W (prc_on h hW) hG ⟨by omega, by omega⟩
  have HE : Hid (rtB s d l ps i = decide (lft s d i ps < l)) := rfl
  have hwb : wb < w.heap.size := World.block_lt_of_cell? w _ h0
  rw [HE.out]
  generalize lft s d i ps = x at *
  clear h hG HE
  subst hv
  generalize ps.length = n at *
  by_cases hc : x < l
  · rw [decide_eq_true hc]
    have hd : decide (x < l) = true := decide_eq_true hc
    go_enter Try.func89, Try.ntmps89
    go_wp2_with fail
    refine wp_region_after (by kernel_rfl) (by kernel_rfl) ?_; (repeat (first | go_big_quiet_step ((go_at_call 81; exact quiet_after (HL.out _ (by (repeat' (first | (with_reducible exact Below.refl _ _) | (with_reducible assumption) | (with_reducible refine Below.alloc ?_ ?_ _) | (with_reducible refine Below.drew ?_) | (with_reducible refine below_drewN ?_ _) | (with_reducible refine Below.setCell ?_ ?_ _) | (with_reducible refine below_after ?_ ?_ _) | (with_reducible refine below_set ?_) | (with_reducible refine After.size_le _ ?_) | (with_reducible refine size_alloc_le ?_) | (with_reducible refine size_set_le ?_) | (with_reducible refine size_drewN_le ?_) | go_size)))))) | (refine wpQuiet_step (fun K hK => ?_); go_simp; first | (refine hK _ ?_; clear hK K) | (apply Exists.intro; refine ⟨fun x => ?_, hK _ ?_⟩; (go_at_call 81; exact quiet_after (HL.out _ (by (repeat' (first | (with_reducible exact Below.refl _ _) | (with_reducible assumption) | (with_reducible refine Below.alloc ?_ ?_ _) | (with_reducible refine Below.drew ?_) | (with_reducible refine below_drewN ?_ _) | (with_reducible refine Below.setCell ?_ ?_ _) | (with_reducible refine below_after ?_ ?_ _) | (with_reducible refine below_set ?_) | (with_reducible refine After.size_le _ ?_) | (with_reducible refine size_alloc_le ?_) | (with_reducible refine size_set_le ?_) | (with_reducible refine size_drewN_le ?_) | go_size))))); clear hK K)))); refine wpQuiet_nil ?_
    intro x1
    go_wp2
    go_ret
    exact ⟨rfl, by (repeat' (first | (with_reducible exact Below.refl _ _) | (with_reducible assumption) | (with_reducible refine Below.alloc ?_ ?_ _) | (with_reducible refine Below.drew ?_) | (with_reducible refine below_drewN ?_ _) | (with_reducible refine Below.setCell ?_ ?_ _) | (with_reducible refine below_after ?_ ?_ _) | (with_reducible refine below_set ?_) | (with_reducible refine After.size_le _ ?_) | (with_reducible refine size_alloc_le ?_) | (with_reducible refine size_set_le ?_) | (with_reducible refine size_drewN_le ?_) | go_size))⟩
  · rw [decide_eq_false hc]
    have hd : decide (x < l) = false := decide_eq_false hc
    go_enter Try.func89, Try.ntmps89
    go_wp2_with fail
    refine wp_region_after (by kernel_rfl) (by kernel_rfl) ?_; (repeat (first | go_big_quiet_step ((go_at_call 81; exact quiet_after (HL.out _ (by (repeat' (first | (with_reducible exact Below.refl _ _) | (with_reducible assumption) | (with_reducible refine Below.alloc ?_ ?_ _) | (with_reducible refine Below.drew ?_) | (with_reducible refine below_drewN ?_ _) | (with_reducible refine Below.setCell ?_ ?_ _) | (with_reducible refine below_after ?_ ?_ _) | (with_reducible refine below_set ?_) | (with_reducible refine After.size_le _ ?_) | (with_reducible refine size_alloc_le ?_) | (with_reducible refine size_set_le ?_) | (with_reducible refine size_drewN_le ?_) | go_size)))))) | (refine wpQuiet_step (fun K hK => ?_); go_simp; first | (refine hK _ ?_; clear hK K) | (apply Exists.intro; refine ⟨fun x => ?_, hK _ ?_⟩; (go_at_call 81; exact quiet_after (HL.out _ (by (repeat' (first | (with_reducible exact Below.refl _ _) | (with_reducible assumption) | (with_reducible refine Below.alloc ?_ ?_ _) | (with_reducible refine Below.drew ?_) | (with_reducible refine below_drewN ?_ _) | (with_reducible refine Below.setCell ?_ ?_ _) | (with_reducible refine below_after ?_ ?_ _) | (with_reducible refine below_set ?_) | (with_reducible refine After.size_le _ ?_) | (with_reducible refine size_alloc_le ?_) | (with_reducible refine size_set_le ?_) | (with_reducible refine size_drewN_le ?_) | go_size))))); clear hK K)))); refine wpQuiet_nil ?_
    intro x1
    go_wp2
    go_ret
    exact ⟨rfl, by (repeat' (first | (with_reducible exact Below.refl _ _) | (with_reducible assumption) | (with_reducible refine Below.alloc ?_ ?_ _) | (with_reducible refine Below.drew ?_) | (with_reducible refine below_drewN ?_ _) | (with_reducible refine Below.setCell ?_ ?_ _) | (with_reducible refine below_after ?_ ?_ _) | (with_reducible refine below_set ?_) | (with_reducible refine After.size_le _ ?_) | (with_reducible refine size_alloc_le ?_) | (with_reducible refine size_set_le ?_) | (with_reducible refine size_drewN_le ?_) | go_size))⟩

set_option maxRecDepth 100000 in
set_option maxHeartbeats 1000000 in
theorem retires_any (s d l : Int) (v : Value) (ps : List (Int × Int)) (w : World) (h : Prc w w.heap.size v ps) (hl : ps.length ≤ 1000) :
    Calls Try.prog 50 #[.agg #[.int .i64 s, .int .i64 d, .int .i64 l], v] w fun e w' => e = .returned (.tuple #[.int .i64 (rtV s d l ps), .int .i64 (rtE s d l ps)]) ∧ Below w.heap.size w w' := by
  obtain ⟨a, cap, hv⟩ := prc_slice h
  by_cases hG : GoodW s d l ps
  · have HV : Hid (∀ W, Below w.heap.size w W → _) := fun W hW => wvalid_any s d l v ps W (prc_on h hW) hl true (by simp [hG])
    obtain ⟨r1, r2, r3⟩ := rtN_spec hG
    have HS : Hid (∀ wb W, Below w.heap.size w W → W.cell? ⟨wb, 0, none⟩ = some (.int .i64 s) → W.cell? ⟨wb, 1, none⟩ = some (.int .i64 d) → W.cell? ⟨wb, 2, none⟩ = some (.int .i64 l) → W.cell? ⟨wb, 3, none⟩ = some v →
        Calls Try.prog 74 #[.int .i64 100001, .func (.func 89) #[] #[.pointer (some ⟨wb, 0, none⟩)]] W fun e w' => e = .returned (.int .i64 (rtN s d l ps)) ∧ Below W.heap.size W w') := fun wb W hW h0 h1 h2 h3 =>
      search_any 89 #[.pointer (some ⟨wb, 0, none⟩)] (enters_of Try.func89 (by kernel_rfl) rfl) 100001 (rtN s d l ps) (rtB s d l ps) W (by omega) r1 r2 r3 (fun i hi W2 hW2 => by
        have hwb : wb < W.heap.size := World.block_lt_of_cell? W _ h0
        exact retires1_any s d l v ps i wb W2 (prc_on h (hW.trans (hW2.mono hW.size))) hG (by omega) ((hW2.cell (p := ⟨wb, 0, none⟩) hwb).trans h0) ((hW2.cell (p := ⟨wb, 1, none⟩) hwb).trans h1) ((hW2.cell (p := ⟨wb, 2, none⟩) hwb).trans h2) ((hW2.cell (p := ⟨wb, 3, none⟩) hwb).trans h3))
    clear r2 r3
    by_cases hr : rtN s d l ps ≤ 100000
    · have e : rtV s d l ps = rtN s d l ps ∧ rtE s d l ps = 0 := by unfold rtV rtE; rw [if_pos ⟨hG, hr⟩, if_pos hG, if_pos hr]; exact ⟨rfl, rfl⟩
      rw [e.1, e.2]
      have HD := Lib.hid (fun W => validDay_any (rtN s d l ps) true (by simp; exact ⟨by omega, by omega⟩) W)
      generalize rtN s d l ps = r at *
      clear h hG e
      subst hv
      generalize ps.length = n at *
      go_enter Try.func50, Try.ntmps50
      go_wp2_with fail
      refine calls_after (HV.out _ (by (repeat' (first | (with_reducible exact Below.refl _ _) | (with_reducible assumption) | (with_reducible refine Below.alloc ?_ ?_ _) | (with_reducible refine Below.drew ?_) | (with_reducible refine below_drewN ?_ _) | (with_reducible refine Below.setCell ?_ ?_ _) | (with_reducible refine below_after ?_ ?_ _) | (with_reducible refine below_set ?_) | (with_reducible refine After.size_le _ ?_) | (with_reducible refine size_alloc_le ?_) | (with_reducible refine size_set_le ?_) | (with_reducible refine size_drewN_le ?_) | go_size)))) ?_
      intro x1
      have hz_x1 := x1.out.size; (try simp only [World.size_alloc] at hz_x1); (try simp only [World.size_setCell] at hz_x1); (try simp only [World.size_alloc] at hz_x1); have k0_x1 : w.heap.size < x1.w.heap.size := (by omega); have j0_x1 : w.heap.size < x1.w.heap.size + 1 := (by omega); have k1_x1 : w.heap.size + 1 < x1.w.heap.size := (by omega); have j1_x1 : w.heap.size + 1 < x1.w.heap.size + 1 := (by omega)
      go_wp2_with fail
      refine calls_after2 (HS.out _ _ (by (repeat' (first | (with_reducible exact Below.refl _ _) | (with_reducible assumption) | (with_reducible refine Below.alloc ?_ ?_ _) | (with_reducible refine Below.drew ?_) | (with_reducible refine below_drewN ?_ _) | (with_reducible refine Below.setCell ?_ ?_ _) | (with_reducible refine below_after ?_ ?_ _) | (with_reducible refine below_set ?_) | (with_reducible refine After.size_le _ ?_) | (with_reducible refine size_alloc_le ?_) | (with_reducible refine size_set_le ?_) | (with_reducible refine size_drewN_le ?_) | go_size))) (by simp [go_sem, *]) (by simp [go_sem, *]) (by simp [go_sem, *]) (by simp [go_sem, *])) ?_
      intro x2
      go_wp2_with (go_at_call 90; refine (HD.out _).mono ?_; rintro e w1 ⟨rfl, rfl⟩)
      go_returns
      exact ⟨rfl, by (repeat' (first | (with_reducible exact Below.refl _ _) | (with_reducible assumption) | (with_reducible refine Below.alloc ?_ ?_ _) | (with_reducible refine Below.drew ?_) | (with_reducible refine below_drewN ?_ _) | (with_reducible refine Below.setCell ?_ ?_ _) | (with_reducible refine below_after ?_ ?_ _) | (with_reducible refine below_set ?_) | (with_reducible refine After.size_le _ ?_) | (with_reducible refine size_alloc_le ?_) | (with_reducible refine size_set_le ?_) | (with_reducible refine size_drewN_le ?_) | go_size))⟩
    · have e : rtV s d l ps = 0 ∧ rtE s d l ps = 8 := by unfold rtV rtE; rw [if_neg (fun h => hr h.2), if_pos hG, if_neg hr]; exact ⟨rfl, rfl⟩
      rw [e.1, e.2]
      have HD := Lib.hid (fun W => validDay_any (rtN s d l ps) false (by simp; exact fun h => by have := h.2; omega) W)
      generalize rtN s d l ps = r at *
      clear h hG e
      subst hv
      generalize ps.length = n at *
      go_enter Try.func50, Try.ntmps50
      go_wp2_with fail
      refine calls_after (HV.out _ (by (repeat' (first | (with_reducible exact Below.refl _ _) | (with_reducible assumption) | (with_reducible refine Below.alloc ?_ ?_ _) | (with_reducible refine Below.drew ?_) | (with_reducible refine below_drewN ?_ _) | (with_reducible refine Below.setCell ?_ ?_ _) | (with_reducible refine below_after ?_ ?_ _) | (with_reducible refine below_set ?_) | (with_reducible refine After.size_le _ ?_) | (with_reducible refine size_alloc_le ?_) | (with_reducible refine size_set_le ?_) | (with_reducible refine size_drewN_le ?_) | go_size)))) ?_
      intro x1
      have hz_x1 := x1.out.size; (try simp only [World.size_alloc] at hz_x1); (try simp only [World.size_setCell] at hz_x1); (try simp only [World.size_alloc] at hz_x1); have k0_x1 : w.heap.size < x1.w.heap.size := (by omega); have j0_x1 : w.heap.size < x1.w.heap.size + 1 := (by omega); have k1_x1 : w.heap.size + 1 < x1.w.heap.size := (by omega); have j1_x1 : w.heap.size + 1 < x1.w.heap.size + 1 := (by omega)
      go_wp2_with fail
      refine calls_after2 (HS.out _ _ (by (repeat' (first | (with_reducible exact Below.refl _ _) | (with_reducible assumption) | (with_reducible refine Below.alloc ?_ ?_ _) | (with_reducible refine Below.drew ?_) | (with_reducible refine below_drewN ?_ _) | (with_reducible refine Below.setCell ?_ ?_ _) | (with_reducible refine below_after ?_ ?_ _) | (with_reducible refine below_set ?_) | (with_reducible refine After.size_le _ ?_) | (with_reducible refine size_alloc_le ?_) | (with_reducible refine size_set_le ?_) | (with_reducible refine size_drewN_le ?_) | go_size))) (by simp [go_sem, *]) (by simp [go_sem, *]) (by simp [go_sem, *]) (by simp [go_sem, *])) ?_
      intro x2
      go_wp2_with (go_at_call 90; refine (HD.out _).mono ?_; rintro e w1 ⟨rfl, rfl⟩)
      go_returns
      exact ⟨rfl, by (repeat' (first | (with_reducible exact Below.refl _ _) | (with_reducible assumption) | (with_reducible refine Below.alloc ?_ ?_ _) | (with_reducible refine Below.drew ?_) | (with_reducible refine below_drewN ?_ _) | (with_reducible refine Below.setCell ?_ ?_ _) | (with_reducible refine below_after ?_ ?_ _) | (with_reducible refine below_set ?_) | (with_reducible refine After.size_le _ ?_) | (with_reducible refine size_alloc_le ?_) | (with_reducible refine size_set_le ?_) | (with_reducible refine size_drewN_le ?_) | go_size))⟩
  · have HV : Hid (∀ W, Below w.heap.size w W → _) := fun W hW => wvalid_any s d l v ps W (prc_on h hW) hl false (by simp [hG])
    have e : rtV s d l ps = 0 ∧ rtE s d l ps = 1 := by unfold rtV rtE; rw [if_neg (fun h => hG h.1), if_neg hG]; exact ⟨rfl, rfl⟩
    rw [e.1, e.2]
    clear h hG e
    subst hv
    generalize ps.length = n at *
    go_enter Try.func50, Try.ntmps50
    go_wp2_with fail
    refine calls_after (HV.out _ (by (repeat' (first | (with_reducible exact Below.refl _ _) | (with_reducible assumption) | (with_reducible refine Below.alloc ?_ ?_ _) | (with_reducible refine Below.drew ?_) | (with_reducible refine below_drewN ?_ _) | (with_reducible refine Below.setCell ?_ ?_ _) | (with_reducible refine below_after ?_ ?_ _) | (with_reducible refine below_set ?_) | (with_reducible refine After.size_le _ ?_) | (with_reducible refine size_alloc_le ?_) | (with_reducible refine size_set_le ?_) | (with_reducible refine size_drewN_le ?_) | go_size)))) ?_
    intro x1
    go_wp2
    go_returns
    exact ⟨rfl, by (repeat' (first | (with_reducible exact Below.refl _ _) | (with_reducible assumption) | (with_reducible refine Below.alloc ?_ ?_ _) | (with_reducible refine Below.drew ?_) | (with_reducible refine below_drewN ?_ _) | (with_reducible refine Below.setCell ?_ ?_ _) | (with_reducible refine below_after ?_ ?_ _) | (with_reducible refine below_set ?_) | (with_reducible refine After.size_le _ ?_) | (with_reducible refine size_alloc_le ?_) | (with_reducible refine size_set_le ?_) | (with_reducible refine size_drewN_le ?_) | go_size))⟩
end Go.Proofs.Ytnhkkboddoiinaa
