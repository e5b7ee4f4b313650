/- What a rope has left on a day, in both programs. -/
import Derived.Test.YtnhkkboddoiinaaWornb
namespace Go.Proofs.Ytnhkkboddoiinaa
open Go.RowKit Go.Shelf
attribute [local go_sem] After.cell After.frozen After.lt After.le After.ne After.ne' After.set_eq After.size_set After.lt_add

/-- The uses of a rope with its uses: the fourth cell. -/
theorem field_worn (x y z v : Value) (w : World) (hv : ∃ a n c, v = .slice a n c) : (Instr.field 97 (.agg #[x, y, z, v]) 1).run Try.prog w = .ok v w := by
  obtain ⟨a, n, c, rfl⟩ := hv
  have e := Try.underlying97
  have e2 := Try.underlying57
  simp [Instr.field, run_underlying e, run_underlying e2, part, isAgg, asAgg, Sem.run_bind, Result.andThen]

set_option maxRecDepth 100000 in
set_option maxHeartbeats 1000000 in
theorem upTo_empty (s d l dy : Int) (a : Option Addr) (cap : Nat) (w : World) (h : a = none ∧ cap = 0 ∨ (∃ p, a = some p) ∧ cap ≤ 9223372036854775807) :
    Calls Try.prog 101 #[.agg #[.int .i64 s, .int .i64 d, .int .i64 l, .slice a 0 cap], .int .i64 dy] w fun e w' => e = .returned (.agg #[.int .i64 s, .int .i64 d, .int .i64 l, .slice a 0 0]) ∧ Below w.heap.size w w' := by
  have HF : Hid (∀ W, Calls Try.prog 91 #[.agg #[.int .i64 s, .int .i64 d, .int .i64 l, .slice a 0 cap], .int .i64 0] W fun e w' => e = .returned (.agg #[.int .i64 s, .int .i64 d, .int .i64 l, .slice a 0 0]) ∧ Below W.heap.size W w') := fun W => by
    rcases h with ⟨rfl, rfl⟩ | ⟨⟨p, rfl⟩, hc⟩
    · exact withFirst_none s d l W
    · exact withFirst_empty s d l p cap W hc
  have HS : Hid (∀ wb db W, Calls Try.prog 74 #[.int .i64 0, .func (.func 105) #[] #[.pointer (some ⟨wb, 0, none⟩), .pointer (some ⟨db, 0, none⟩)]] W fun e w' => e = .returned (.int .i64 0) ∧ Below W.heap.size W w') := fun wb db W =>
    search_any 105 #[.pointer (some ⟨wb, 0, none⟩), .pointer (some ⟨db, 0, none⟩)] (enters_of Try.func105 (by kernel_rfl) rfl) 0 0 (fun _ => true) W (by omega) (by omega) (fun i h => absurd h (by omega)) (fun i _ h => absurd h (by omega)) (fun i h => absurd h (by omega))
  clear h
  go_enter Try.func101, Try.ntmps101
  go_wp2_with fail
  refine wp_region_after_tail 7 (by kernel_rfl) (by kernel_rfl) ?_; simp only [List.take_succ_cons, List.take_zero, List.drop_succ_cons, List.drop_zero]; (repeat (first | go_big_quiet_step ((first | (go_at_call 74; exact quiet_after (HS.out _ _ _)) | (go_at_call 91; exact quiet_after (HF.out _)))) | (refine wpQuiet_step (fun K hK => ?_); go_simp; first | (refine hK _ ?_; clear hK K) | (apply Exists.intro; refine ⟨fun x => ?_, hK _ ?_⟩; (first | (go_at_call 74; exact quiet_after (HS.out _ _ _)) | (go_at_call 91; exact quiet_after (HF.out _))); clear hK K)))); refine wpQuiet_nil ?_
  intro x1
  have hz_x1 := x1.out.size; (try simp only [World.size_alloc] at hz_x1); (try simp only [World.size_setCell] at hz_x1); (try simp only [World.size_alloc] at hz_x1); have k0_x1 : w.heap.size + 2 < x1.w.heap.size := (by omega); have j0_x1 : w.heap.size + 2 < x1.w.heap.size + 1 := (by omega)
  go_wp2_with fail
  go_returns
  exact ⟨rfl, by (repeat' (first | (with_reducible exact Below.refl _ _) | (with_reducible assumption) | (with_reducible refine Below.alloc ?_ ?_ _) | (with_reducible refine Below.drew ?_) | (with_reducible refine below_drewN ?_ _) | (with_reducible refine Below.setCell ?_ ?_ _) | (with_reducible refine below_after ?_ ?_ _) | (with_reducible refine below_set ?_) | (with_reducible refine After.size_le _ ?_) | (with_reducible refine size_alloc_le ?_) | (with_reducible refine size_set_le ?_) | (with_reducible refine size_drewN_le ?_) | go_size))⟩

/-- What upTo hands back: the first r uses. -/
theorem upTo_v (s d l dy : Int) (v : Value) (ps : List (Int × Int)) (w : World) (h : Prc w w.heap.size v ps) (hU : GoodU ps) :
    ∃ (a : Option Addr) (r : Nat), r ≤ ps.length ∧ upD dy ps = ps.take r ∧ (0 < r → ∃ b off, a = some ⟨b, off, none⟩ ∧ b < w.heap.size ∧ PrCells w b off ps) ∧
      ∀ W, Below w.heap.size w W → Calls Try.prog 101 #[.agg #[.int .i64 s, .int .i64 d, .int .i64 l, v], .int .i64 dy] W fun e w' => e = .returned (.agg #[.int .i64 s, .int .i64 d, .int .i64 l, .slice a r r]) ∧ Below W.heap.size W w' := by
  rcases h with ⟨rfl, rfl⟩ | ⟨p, cap, rfl, hcap, rfl⟩ | ⟨b, off, cap, rfl, h0, h1, h2, hb, hc⟩
  · exact ⟨none, 0, by simp, by simp [upD], fun h => absurd h (by omega), fun W _ => upTo_empty s d l dy none 0 W (.inl ⟨rfl, rfl⟩)⟩
  · exact ⟨some p, 0, by simp, by simp [upD], fun h => absurd h (by omega), fun W _ => upTo_empty s d l dy (some p) cap W (.inr ⟨⟨p, rfl⟩, hcap⟩)⟩
  · obtain ⟨r, hr, hr0, hr1⟩ := day_turn hU dy
    have hl := hU.1
    have ht := upD_take (ps := ps) (d := dy) (r := r) (k := ps.length) hr (Nat.le_refl _) (fun i hi => by have := hr0 i hi; simp at this; omega) (fun i hi hin => by have := hr1 i hi hin; simpa using this)
    rw [List.take_length] at ht
    exact ⟨some ⟨b, off, none⟩, r, hr, ht, fun _ => ⟨b, off, rfl, hb, hc⟩, fun W hW => upTo_row s d l dy b off cap r ps W (Nat.lt_of_lt_of_le hb hW.size) h0 (by omega) h1 h2 (prCells_on hb hc hW) hr hr0 hr1⟩

theorem dl_bd {dl dy : Int} (h1 : Btw dl 0 1000) (h2 : Dy dy) : 0 ≤ dl * dy ∧ dl * dy ≤ 100000000 := by
  obtain ⟨a, b⟩ := h1
  obtain ⟨c, d⟩ := h2
  exact ⟨Int.mul_nonneg a c, Int.le_trans (Int.mul_le_mul b d c (by omega)) (by omega)⟩

set_option maxRecDepth 100000 in
set_option maxHeartbeats 1000000 in
theorem wleft_any (s d l dy : Int) (v : Value) (ps : List (Int × Int)) (w : World) (h : Prc w w.heap.size v ps) (hG : GoodW s d l ps) (hD : Dy dy) :
    Calls Try.prog 81 #[.agg #[.int .i64 s, .int .i64 d, .int .i64 l, v], .int .i64 dy] w fun e w' => e = .returned (.int .i64 (lft s d dy ps)) ∧ Below w.heap.size w w' := by
  obtain ⟨a0, cap0, hv⟩ := prc_slice h
  obtain ⟨a, r, hr, ht, ha, hu⟩ := upTo_v s d l dy v ps w h hG.2
  have HU : Hid (∀ W, Below w.heap.size w W → _) := hu
  have HA := Lib.hid ha
  have HT := Lib.hid ht
  have HG := Lib.hid hG
  have hl := hG.2.1
  obtain ⟨s1, s2⟩ := hG.1.1
  obtain ⟨m1, m2⟩ := dl_bd hG.1.2.1 hD
  clear hu ha ht h
  subst hv
  have hr5 : r ≤ 500 := by omega
  have HE : Hid (lft s d dy ps = max (1000 - d * dy - csum s (ps.take r)) 0) := Lib.hid (by unfold lft leftN; rw [HT.out])
  rw [HE.out]
  clear HE HT
  go_enter Try.func81, Try.ntmps81
  go_wp2_with fail
  refine calls_after (HU.out _ (by (repeat' (first | (with_reducible exact Below.refl _ _) | (with_reducible assumption) | (with_reducible refine Below.alloc ?_ ?_ _) | (with_reducible refine Below.drew ?_) | (with_reducible refine below_drewN ?_ _) | (with_reducible refine Below.setCell ?_ ?_ _) | (with_reducible refine below_after ?_ ?_ _) | (with_reducible refine below_set ?_) | (with_reducible refine After.size_le _ ?_) | (with_reducible refine size_alloc_le ?_) | (with_reducible refine size_set_le ?_) | (with_reducible refine size_drewN_le ?_) | go_size)))) ?_
  intro x1
  clear HU
  have hz_x1 := x1.out.size; (try simp only [World.size_alloc] at hz_x1); (try simp only [World.size_setCell] at hz_x1); (try simp only [World.size_alloc] at hz_x1); have k0_x1 : w.heap.size < x1.w.heap.size := (by omega); have j0_x1 : w.heap.size < x1.w.heap.size + 1 := (by omega)
  have hfw := fun W => field_worn (.int .i64 s) (.int .i64 d) (.int .i64 l) (.slice a r r) W ⟨a, r, r, rfl⟩
  go_wp2_with fail
  clear hfw
  go_loopw [5, 7, 18] (fun t u i wr => ∃ k : Nat, k ≤ r ∧ i = .int .i64 k ∧ t = .int .i64 (d * dy + csum s (ps.take k)) ∧ ∃ x : After x1.w, wr = x.w) (fun _ _ i _ => r - (intOf i).toNat)
  case atStart => exact ⟨0, by omega, rfl, by simp [csum], ⟨x1.w, Below.refl _ _⟩, rfl⟩
  case round =>
    obtain ⟨k, hk, rfl, rfl, x, rfl⟩ := hrel
    obtain ⟨_, _, t3, t4⟩ := take_bdU (s := s) s1 HG.out.2 dy k
    have hxs := x.out.size
    by_cases hlt : k < r
    · obtain ⟨b, off, rfl, hb, hc⟩ := HA.out (by omega)
      have hkp : k < ps.length := by omega
      obtain ⟨c1, c2⟩ := hc k hkp
      have E1 : Hid (csum s (ps.take (k + 1)) = csum s (ps.take k) + ceilD ((ps.getD k (0, 0)).2 * 100) s) := Lib.hid (by rw [take_snocU hkp, csum_snoc]; rfl)
      obtain ⟨o1, o2⟩ := cst_bd s1 (HG.out.2.2 k hkp).2.1
      obtain ⟨o3, o4⟩ := (HG.out.2.2 k hkp).2.1
      unfold cst at o1 o2
      unfold usAt at o1 o2 o3 o4
      have y1 : b < w.heap.size + 1 := by omega
      have y2 : b < x1.w.heap.size := by omega
      have y3 : b < x.w.heap.size := by omega
      have y4 : w.heap.size < x.w.heap.size := by omega
      have y5 : w.heap.size < x.w.heap.size + 1 := by omega
      generalize ps.getD k (0, 0) = p at *
      obtain ⟨hh, vv⟩ := p
      dsimp only at *
      have hkr : (k : Int) < (r : Int) := by omega
      have HUp := Lib.hid (fun W => up_any (vv * 100) s W (by omega) (by omega) s1 (by omega))
      generalize ceilD (vv * 100) s = cc at *
      clear hc HA
      go_wp2_with fail
      refine calls_after (HUp.out _) ?_
      intro y
      have hz_y := y.out.size; (try simp only [World.size_alloc] at hz_y); (try simp only [World.size_setCell] at hz_y); (try simp only [World.size_alloc] at hz_y); have k0_y : w.heap.size < y.w.heap.size := (by omega); have j0_y : w.heap.size < y.w.heap.size + 1 := (by omega); have k1_y : x.w.heap.size < y.w.heap.size := (by omega); have j1_y : x.w.heap.size < y.w.heap.size + 1 := (by omega)
      go_wp2
      go_roundw
      case rel => exact ⟨k + 1, by omega, by go_num, by rw [E1.out]; first | rfl | (congr 1; omega), ⟨_, below_after (x.out.alloc x.out.size _) (by simp; omega) y⟩, rfl⟩
      case measure => simp [intOf]; omega
    · obtain rfl : r = k := by omega
      go_wp2
      all_goals
        go_ret
        exact ⟨ret_int (by omega), by (repeat' (first | (with_reducible exact Below.refl _ _) | (with_reducible assumption) | (with_reducible refine Below.alloc ?_ ?_ _) | (with_reducible refine Below.drew ?_) | (with_reducible refine below_drewN ?_ _) | (with_reducible refine Below.setCell ?_ ?_ _) | (with_reducible refine below_after ?_ ?_ _) | (with_reducible refine below_set ?_) | (with_reducible refine After.size_le _ ?_) | (with_reducible refine size_alloc_le ?_) | (with_reducible refine size_set_le ?_) | (with_reducible refine size_drewN_le ?_) | go_size))⟩

set_option maxRecDepth 100000 in
set_option maxHeartbeats 1000000 in
theorem rleft_row (s d l dy : Int) (b off cap : Nat) (ps : List (Int × Int)) (w : World) (hb : b < w.heap.size) (hc : PrCells w b off ps) (hG : GoodW s d l ps) (hD : Dy dy) :
    Calls Try.prog 83 #[.agg #[.int .i64 s, .int .i64 d, .int .i64 l], .slice (some ⟨b, off, none⟩) ps.length cap, .int .i64 dy] w fun e w' => e = .returned (.int .i64 (lft s d dy ps)) ∧ Below w.heap.size w w' := by
  have HG := Lib.hid hG
  have HC := Lib.hid hc
  have hl := hG.2.1
  obtain ⟨s1, s2⟩ := hG.1.1
  obtain ⟨m1, m2⟩ := dl_bd hG.1.2.1 hD
  have HE : Hid (lft s d dy ps = max (leftN s d dy ps) 0) := rfl
  rw [HE.out]
  have hb1 : b < w.heap.size + 1 := by omega
  clear hc HE
  go_enter Try.func83, Try.ntmps83
  go_wp2
  go_loopw [7, 8] (fun t i wr => ∃ k : Nat, k ≤ ps.length ∧ i = .int .i64 k ∧ t = .int .i64 (leftN s d dy (ps.take k)) ∧ ∃ x : After (w.alloc (.cells #[.int .i64 s, .int .i64 d, .int .i64 l] 56)), wr = x.w) (fun _ i _ => ps.length - (intOf i).toNat)
  case atStart => exact ⟨0, by omega, rfl, by simp [leftN, upD, csum], ⟨_, Below.refl _ _⟩, rfl⟩
  case round =>
    obtain ⟨k, hk, rfl, rfl, x, rfl⟩ := hrel
    obtain ⟨t1, t2, _, _⟩ := take_bdU (s := s) s1 HG.out.2 dy k
    have l1 : -50100000000 ≤ leftN s d dy (ps.take k) := by unfold leftN; omega
    have l2 : leftN s d dy (ps.take k) ≤ 1000 := by unfold leftN; omega
    have hz_x := x.out.size; (try simp only [World.size_alloc] at hz_x); (try simp only [World.size_setCell] at hz_x); (try simp only [World.size_alloc] at hz_x); have k0_x : w.heap.size < x.w.heap.size := (by omega); have j0_x : w.heap.size < x.w.heap.size + 1 := (by omega)
    by_cases hlt : k < ps.length
    · obtain ⟨c1, c2⟩ := HC.out k hlt
      have hkr : (k : Int) < (ps.length : Int) := by omega
      obtain ⟨o1, o2⟩ := cst_bd s1 (HG.out.2.2 k hlt).2.1
      obtain ⟨o3, o4⟩ := (HG.out.2.2 k hlt).2.1
      have HU : Hid (leftN s d dy (ps.take (k + 1)) = if (ps.getD k (0, 0)).1 ≤ dy then leftN s d dy (ps.take k) - ceilD ((ps.getD k (0, 0)).2 * 100) s else leftN s d dy (ps.take k)) := Lib.hid (by
        unfold leftN
        rw [take_snocU hlt, upD_snoc]
        show _ = if (usAt ps k).1 ≤ dy then _ else _
        split
        · rw [csum_snoc]; show 1000 - d * dy - (_ + cst s (usAt ps k)) = 1000 - d * dy - _ - cst s (usAt ps k); omega
        · rfl)
      unfold cst at o1 o2
      unfold usAt at o1 o2 o3 o4
      generalize ps.getD k (0, 0) = p at *
      obtain ⟨hh, vv⟩ := p
      dsimp only at *
      have HCe : Hid (ceilD (vv * 100) s = -((-100 * vv) / s)) := Lib.hid (by unfold ceilD; congr 2; omega)
      rw [HCe.out] at o1 o2 HU
      have HFl := Lib.hid (fun W => floor_any (-100 * vv) s W (by omega) (by omega) s1 (by omega))
      have q1 : -100000000 ≤ (-100 * vv) / s := by omega
      have q2 : (-100 * vv) / s ≤ 0 := by omega
      clear HCe o1 o2
      by_cases hu : hh ≤ dy
      · have hud : decide (hh ≤ dy) = true := decide_eq_true hu
        rw [if_pos hu] at HU
        generalize leftN s d dy (ps.take k) = L at *
        generalize (-100 * vv) / s = cc at *
        go_wp2_with fail
        refine wp_region_after (by kernel_rfl) (by kernel_rfl) ?_; (repeat (first | go_big_quiet_step ((go_at_call 69; exact quiet_after (HFl.out _))) | (refine wpQuiet_step (fun K hK => ?_); go_simp; first | (refine hK _ ?_; clear hK K) | (apply Exists.intro; refine ⟨fun x => ?_, hK _ ?_⟩; (go_at_call 69; exact quiet_after (HFl.out _)); clear hK K)))); refine wpQuiet_nil ?_
        intro y
        go_wp2
        go_roundw
        case rel => exact ⟨k + 1, by omega, by go_num, by rw [HU.out]; congr 1; omega, ⟨_, below_after x.out x.out.size y⟩, rfl⟩
        case measure => simp [intOf]; omega
      · have hud : decide (hh ≤ dy) = false := decide_eq_false hu
        rw [if_neg hu] at HU
        generalize leftN s d dy (ps.take k) = L at *
        clear HFl
        go_wp2
        go_roundw
        case rel => exact ⟨k + 1, by omega, by go_num, by rw [HU.out], x, rfl⟩
        case measure => simp [intOf]; omega
    · obtain rfl : k = ps.length := by omega
      rw [List.take_length] at *
      by_cases h0 : leftN s d dy ps < 0
      · go_wp2
        go_ret
        exact ⟨ret_int (by omega), by (repeat' (first | (with_reducible exact Below.refl _ _) | (with_reducible assumption) | (with_reducible refine Below.alloc ?_ ?_ _) | (with_reducible refine Below.drew ?_) | (with_reducible refine below_drewN ?_ _) | (with_reducible refine Below.setCell ?_ ?_ _) | (with_reducible refine below_after ?_ ?_ _) | (with_reducible refine below_set ?_) | (with_reducible refine After.size_le _ ?_) | (with_reducible refine size_alloc_le ?_) | (with_reducible refine size_set_le ?_) | (with_reducible refine size_drewN_le ?_) | go_size))⟩
      · go_wp2
        go_ret
        exact ⟨ret_int (by omega), by (repeat' (first | (with_reducible exact Below.refl _ _) | (with_reducible assumption) | (with_reducible refine Below.alloc ?_ ?_ _) | (with_reducible refine Below.drew ?_) | (with_reducible refine below_drewN ?_ _) | (with_reducible refine Below.setCell ?_ ?_ _) | (with_reducible refine below_after ?_ ?_ _) | (with_reducible refine below_set ?_) | (with_reducible refine After.size_le _ ?_) | (with_reducible refine size_alloc_le ?_) | (with_reducible refine size_set_le ?_) | (with_reducible refine size_drewN_le ?_) | go_size))⟩
set_option maxRecDepth 100000 in
set_option maxHeartbeats 1000000 in
theorem rleft_empty (s d l dy : Int) (a : Option Addr) (cap : Nat) (w : World) (hG : GoodR s d l) (hD : Dy dy) :
    Calls Try.prog 83 #[.agg #[.int .i64 s, .int .i64 d, .int .i64 l], .slice a 0 cap, .int .i64 dy] w fun e w' => e = .returned (.int .i64 (lft s d dy [])) ∧ Below w.heap.size w w' := by
  obtain ⟨m1, m2⟩ := dl_bd hG.2.1 hD
  have HE : Hid (lft s d dy [] = max (1000 - d * dy) 0) := Lib.hid (by simp [lft, leftN, upD, csum])
  rw [HE.out]
  clear HE
  go_enter Try.func83, Try.ntmps83
  go_wp2
  go_loopw [7, 8] (fun t i wr => i = .int .i64 0 ∧ t = .int .i64 (1000 - d * dy) ∧ wr = w.alloc (.cells #[.int .i64 s, .int .i64 d, .int .i64 l] 56)) (fun _ _ _ => 0)
  case atStart => exact ⟨rfl, rfl, rfl⟩
  case round =>
    obtain ⟨rfl, rfl, rfl⟩ := hrel
    by_cases h0 : 1000 - d * dy < 0
    · go_wp2
      all_goals
        go_ret
        exact ⟨ret_int (by omega), by (repeat' (first | (with_reducible exact Below.refl _ _) | (with_reducible assumption) | (with_reducible refine Below.alloc ?_ ?_ _) | (with_reducible refine Below.drew ?_) | (with_reducible refine below_drewN ?_ _) | (with_reducible refine Below.setCell ?_ ?_ _) | (with_reducible refine below_after ?_ ?_ _) | (with_reducible refine below_set ?_) | (with_reducible refine After.size_le _ ?_) | (with_reducible refine size_alloc_le ?_) | (with_reducible refine size_set_le ?_) | (with_reducible refine size_drewN_le ?_) | go_size))⟩
    · go_wp2
      all_goals
        go_ret
        exact ⟨ret_int (by omega), by (repeat' (first | (with_reducible exact Below.refl _ _) | (with_reducible assumption) | (with_reducible refine Below.alloc ?_ ?_ _) | (with_reducible refine Below.drew ?_) | (with_reducible refine below_drewN ?_ _) | (with_reducible refine Below.setCell ?_ ?_ _) | (with_reducible refine below_after ?_ ?_ _) | (with_reducible refine below_set ?_) | (with_reducible refine After.size_le _ ?_) | (with_reducible refine size_alloc_le ?_) | (with_reducible refine size_set_le ?_) | (with_reducible refine size_drewN_le ?_) | go_size))⟩
theorem rleft_any (s d l dy : Int) (v : Value) (ps : List (Int × Int)) (w : World) (h : Prc w w.heap.size v ps) (hG : GoodW s d l ps) (hD : Dy dy) :
    Calls Try.prog 83 #[.agg #[.int .i64 s, .int .i64 d, .int .i64 l], v, .int .i64 dy] w fun e w' => e = .returned (.int .i64 (lft s d dy ps)) ∧ Below w.heap.size w w' := by
  rcases h with ⟨rfl, rfl⟩ | ⟨p, cap, rfl, _, rfl⟩ | ⟨b, off, cap, rfl, h0, h1, h2, hb, hc⟩
  · exact rleft_empty s d l dy none 0 w hG.1 hD
  · exact rleft_empty s d l dy _ cap w hG.1 hD
  · exact rleft_row s d l dy b off cap ps w hb hc hG hD
end Go.Proofs.Ytnhkkboddoiinaa
