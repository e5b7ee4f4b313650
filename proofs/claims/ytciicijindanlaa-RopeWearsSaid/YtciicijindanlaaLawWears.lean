/- RopeWears: the law's walk. -/
import Derived.Test.YtciicijindanlaaTestr
import Derived.Test.YtciicijindanlaaRetire
import Derived.Test.YtciicijindanlaaUapp
import Derived.Deep.DeepCutAuto
import Derived.OwnWalk
namespace Go.Proofs.Ytciicijindanlaa
open Go.RowKit
attribute [local go_sem] After.cell After.frozen After.lt After.le After.ne After.ne' After.set_eq After.size_set After.lt_add

theorem bcell2 {W W1 : World} (hb : Below W.heap.size W W1) : (∀ b o, b < W.heap.size → W1.cell? ⟨b, o, none⟩ = W.cell? ⟨b, o, none⟩) ∧ (∀ b o, b < W.heap.size → W1.frozen? ⟨b, o, none⟩ = W.frozen? ⟨b, o, none⟩) :=
  ⟨fun b o h => hb.cell (p := ⟨b, o, none⟩) h, fun b o h => hb.frozen (p := ⟨b, o, none⟩) h⟩

theorem and4 {E3 m n : Int} {M : Bool} (h : true = (decide (E3 = 0) && M && decide (0 ≤ m) && decide (m ≤ n))) : E3 = 0 ∧ M = true ∧ 0 ≤ m ∧ m ≤ n := by
  cases M
  · simp at h
  · simp at h
    exact ⟨h.1.1, rfl, h.1.2, h.2⟩
theorem size_drew' (w : World) : w.drew.heap.size = w.heap.size := rfl
/-! ### Plain mathematics -/
theorem wear_later {s d l day later : Int} {ps : List (Int × Int)} (hG : GoodW s d l ps) (h : erN s d l ps later 0 = 0) (hd : day ≤ later) : lfV s d l ps later ≤ lft s d day ps := by
  unfold lfV; rw [if_pos h]
  exact lft_mono hG.1.1.1 hG.2 hG.1.2.1.1 hd
theorem wear_more {s d l day n : Int} {ps : List (Int × Int)} (h : erN s d l (ps ++ [(day, n)]) day 0 = 0) : lfV s d l (ps ++ [(day, n)]) day ≤ lft s d day ps := by
  unfold lfV; rw [if_pos h]
  rcases erN_cases s d l (ps ++ [(day, n)]) day 0 with ⟨_, hG, _, _⟩ | e | e
  · exact lft_more hG.1.1.1 (goodU_all hG.2 (day, n) (by simp))
  · omega
  · omega
theorem wear_less {s d l day n m : Int} {ps : List (Int × Int)} (h : erN s d l ps day n = 0) (hM : maV s d l ps day n = true) (h0 : 0 ≤ m) (h1 : m ≤ n) : erN s d l ps day m = 0 ∧ maV s d l ps day m = true := by
  rcases erN_cases s d l ps day n with ⟨_, hG, hD, hn⟩ | e | e
  · have e : erN s d l ps day m = 0 := by
      unfold erN; rw [if_pos hG, if_pos ⟨hD, ⟨h0, by have := hn.2; omega⟩⟩]
    refine ⟨e, ?_⟩
    unfold maV at *
    rw [if_pos h] at hM
    rw [if_pos e]
    unfold mayB at *
    simp at hM ⊢
    omega
  · omega
  · omega
theorem wear_end {s d l day : Int} {ps : List (Int × Int)} (hG : GoodW s d l ps) (hD : Dy day) :
    rtE s d l ps = 8 ∧ l ≤ lft s d day ps ∨ rtE s d l ps = 0 ∧ decide (rtV s d l ps ≤ day) = decide (lft s d day ps < l) := by
  obtain ⟨r1, r2, r3⟩ := rtN_spec hG
  obtain ⟨d1, d2⟩ := hD
  obtain ⟨k, rfl⟩ := Int.eq_ofNat_of_zero_le d1
  by_cases hr : rtN s d l ps ≤ 100000
  · right
    unfold rtE rtV
    rw [if_pos hG, if_pos hr, if_pos ⟨hG, hr⟩]
    refine ⟨rfl, decide_eq_decide.2 ⟨fun h => ?_, fun h => ?_⟩⟩
    · have := r3 k (by omega) (by omega)
      unfold rtB at this
      simpa using this
    · rcases Nat.lt_or_ge k (rtN s d l ps) with h2 | h2
      · have := r2 k h2
        unfold rtB at this
        simp at this; omega
      · omega
  · left
    unfold rtE
    rw [if_pos hG, if_neg hr]
    refine ⟨rfl, ?_⟩
    have := r2 k (by omega)
    unfold rtB at this
    simpa using this

set_option maxRecDepth 100000 in
set_option maxHeartbeats 1000000 in
theorem ropeWears_long (s d l : Int) (a : Option Addr) (n cap : Nat) (n0 n1 n2 n3 : Int) (w : World) (h : 100 < n) :
    Calls Try.prog 12 #[.agg #[.int .i64 s, .int .i64 d, .int .i64 l], .slice a n cap, .agg #[.int .i64 n0, .int .i64 n1, .int .i64 n2, .int .i64 n3]] w fun e w' => e = .returned (.bool true) ∧ Below w.heap.size w w' := by
  have d1 : decide ((100 : Int) < (n : Int)) = true := decide_eq_true (by omega)
  go_enter Try.func12, Try.ntmps12
  go_wp2_with fail
  refine calls_after (awake_any _) ?_
  intro x1
  go_wp2
  go_ret
  exact ⟨rfl, by (repeat' (first | (with_reducible exact Below.refl _ _) | (with_reducible assumption) | (with_reducible refine Below.alloc ?_ ?_ _) | (with_reducible refine Below.drew ?_) | (with_reducible refine below_drewN ?_ _) | (with_reducible refine Below.setCell ?_ ?_ _) | (with_reducible refine below_after ?_ ?_ _) | (with_reducible refine below_set ?_) | (with_reducible refine After.size_le _ ?_) | (with_reducible refine size_alloc_le ?_) | (with_reducible refine size_set_le ?_) | (with_reducible refine size_drewN_le ?_) | go_size))⟩

set_option maxRecDepth 100000 in
set_option maxHeartbeats 4000000 in
theorem ropeWears_any (s d l : Int) (v : Value) (ps : List (Int × Int)) (day later n m : Int) (w : World) (h : Prc w w.heap.size v ps) (hl : ps.length ≤ 100) :
    Calls Try.prog 12 #[.agg #[.int .i64 s, .int .i64 d, .int .i64 l], v, .agg #[.int .i64 day, .int .i64 later, .int .i64 n, .int .i64 m]] w fun e w' => e = .returned (.bool true) ∧ Below w.heap.size w w' := by
  obtain ⟨a, cap, hv⟩ := prc_slice h
  have d1 : decide ((100 : Int) < (ps.length : Int)) = false := decide_eq_false (by omega)
  have H1 : Hid (∀ W, Below w.heap.size w W → _) := fun W hW => leftR_any s d l day v ps W (prc_on h hW) (by omega)
  rcases erN_cases s d l ps day 0 with ⟨e, hG, hD, _⟩ | e | e
  case inr.inl | inr.inr =>
    rw [e] at H1
    clear h e
    subst hv
    generalize lfV s d l ps day = q at *
    generalize ps.length = k at *
    go_enter Try.func12, Try.ntmps12
    go_wp2_with fail
    go_region
    go_wp2_with fail
    refine calls_after (H1.out _ (by (repeat' (first | (with_reducible exact Below.refl _ _) | (with_reducible assumption) | (with_reducible refine Below.alloc ?_ ?_ _) | (with_reducible refine Below.drew ?_) | (with_reducible refine below_drewN ?_ _) | (with_reducible refine Below.setCell ?_ ?_ _) | (with_reducible refine below_after ?_ ?_ _) | (with_reducible refine below_set ?_) | (with_reducible refine After.size_le _ ?_) | (with_reducible refine size_alloc_le ?_) | (with_reducible refine size_set_le ?_) | (with_reducible refine size_drewN_le ?_) | go_size)))) ?_
    intro x1
    go_wp2_with fail
    refine calls_after2 (awake_any _) ?_
    intro x2
    go_wp2
    go_ret
    exact ⟨rfl, by (repeat' (first | (with_reducible exact Below.refl _ _) | (with_reducible assumption) | (with_reducible refine Below.alloc ?_ ?_ _) | (with_reducible refine Below.drew ?_) | (with_reducible refine below_drewN ?_ _) | (with_reducible refine Below.setCell ?_ ?_ _) | (with_reducible refine below_after ?_ ?_ _) | (with_reducible refine below_set ?_) | (with_reducible refine After.size_le _ ?_) | (with_reducible refine size_alloc_le ?_) | (with_reducible refine size_set_le ?_) | (with_reducible refine size_drewN_le ?_) | go_size))⟩
  rw [e, show lfV s d l ps day = lft s d day ps by unfold lfV; rw [if_pos e]] at H1
  have H2 : Hid (∀ W, Below w.heap.size w W → _) := fun W hW => leftR_any s d l later v ps W (prc_on h hW) (by omega)
  have F1 : Hid (erN s d l ps later 0 = 0 → day ≤ later → lfV s d l ps later ≤ lft s d day ps) := fun h1 h2 => wear_later hG h1 h2
  have H3 : Hid (∀ v2 W, Prc W W.heap.size v2 (ps ++ [(day, n)]) → ∀ W', Below W.heap.size W W' → Calls Try.prog 40 #[.agg #[.int .i64 s, .int .i64 d, .int .i64 l], v2, .int .i64 day] W' fun e w' => e = .returned (.tuple #[.int .i64 (lfV s d l (ps ++ [(day, n)]) day), .int .i64 (erN s d l (ps ++ [(day, n)]) day 0)]) ∧ Below W'.heap.size W' w') := fun v2 W hp W' hW' => leftR_any s d l day v2 _ W' (prc_on hp hW') (by simp; omega)
  have F2 : Hid (erN s d l (ps ++ [(day, n)]) day 0 = 0 → lfV s d l (ps ++ [(day, n)]) day ≤ lft s d day ps) := fun h1 => wear_more h1
  have H4 : Hid (∀ W, Below w.heap.size w W → _) := fun W hW => mayR_any s d l day n v ps W (prc_on h hW) (by omega)
  have H5 : Hid (∀ W, Below w.heap.size w W → _) := fun W hW => mayR_any s d l day m v ps W (prc_on h hW) (by omega)
  have F3 : Hid (erN s d l ps day n = 0 → maV s d l ps day n = true → 0 ≤ m → m ≤ n → erN s d l ps day m = 0 ∧ maV s d l ps day m = true) := fun h1 h2 h3 h4 => wear_less h1 h2 h3 h4
  have H6 : Hid (∀ W, Below w.heap.size w W → _) := fun W hW => retires_any s d l v ps W (prc_on h hW) (by omega)
  have F5 := Lib.hid (wear_end hG hD)
  have HP := Lib.hid h
  clear h hG hD e
  subst hv
  generalize lft s d day ps = A at *
  generalize lfV s d l ps later = B1 at *
  generalize erN s d l ps later 0 = E1 at *
  generalize lfV s d l (ps ++ [(day, n)]) day = B2 at *
  generalize erN s d l (ps ++ [(day, n)]) day 0 = E2 at *
  generalize maV s d l ps day n = M at *
  generalize erN s d l ps day n = E3 at *
  generalize maV s d l ps day m = N at *
  generalize erN s d l ps day m = E4 at *
  generalize rtV s d l ps = R at *
  generalize rtE s d l ps = E5 at *
  go_enter Try.func12, Try.ntmps12
  go_wp2_with fail
  go_region
  go_wp2_with fail
  refine calls_after (H1.out _ (by (repeat' (first | (with_reducible exact Below.refl _ _) | (with_reducible assumption) | (with_reducible refine Below.alloc ?_ ?_ _) | (with_reducible refine Below.drew ?_) | (with_reducible refine below_drewN ?_ _) | (with_reducible refine Below.setCell ?_ ?_ _) | (with_reducible refine below_after ?_ ?_ _) | (with_reducible refine below_set ?_) | (with_reducible refine After.size_le _ ?_) | (with_reducible refine size_alloc_le ?_) | (with_reducible refine size_set_le ?_) | (with_reducible refine size_drewN_le ?_) | go_size)))) ?_
  intro x1
  clear H1
  have z1 := x1.out.size
  rw [size_drew', World.size_alloc, World.size_alloc] at z1
  have k1 : w.heap.size < x1.w.heap.size := by omega
  have k2 : w.heap.size + 1 < x1.w.heap.size := by omega
  have k3 : w.heap.size < x1.w.heap.size + 1 := by omega
  go_wp2_with fail
  refine calls_after2 (H2.out _ (by (repeat' (first | (with_reducible exact Below.refl _ _) | (with_reducible assumption) | (with_reducible refine Below.alloc ?_ ?_ _) | (with_reducible refine Below.drew ?_) | (with_reducible refine below_drewN ?_ _) | (with_reducible refine Below.setCell ?_ ?_ _) | (with_reducible refine below_after ?_ ?_ _) | (with_reducible refine below_set ?_) | (with_reducible refine After.size_le _ ?_) | (with_reducible refine size_alloc_le ?_) | (with_reducible refine size_set_le ?_) | (with_reducible refine size_drewN_le ?_) | go_size)))) ?_
  intro x2
  clear H2
  have z2 := x2.out.size
  rw [size_drew', World.size_alloc, World.size_alloc] at z2
  have k4 : w.heap.size < x2.w.heap.size := by omega
  have k5 : w.heap.size + 1 < x2.w.heap.size := by omega
  have k6 : w.heap.size < x2.w.heap.size + 1 := by omega
  go_upto_region 8 with (fail)
  go_cut [64] (fun s wx => s = .bool false ∧ wx = x2.w)
  case first =>
    clear H3 H4 H5 H6
    by_cases c1 : E1 = 0
    · have c1' : (E1 == 0) = true := by simpa using c1
      by_cases c2 : day ≤ later
      · have c2' : decide (day ≤ later) = true := decide_eq_true c2
        have c3' : decide (A < B1) = false := decide_eq_false (by have := F1.out c1 c2; omega)
        clear c1 c2
        go_wp2
        all_goals (go_meet; case rel => exact ⟨rfl, rfl⟩)
      · have c2' : decide (day ≤ later) = false := decide_eq_false c2
        clear c1 c2
        go_wp2
        all_goals (go_meet; case rel => exact ⟨rfl, rfl⟩)
    · have c1' : (E1 == 0) = false := by simpa using c1
      clear c1
      go_wp2
      all_goals (go_meet; case rel => exact ⟨rfl, rfl⟩)
  case rest =>
    obtain ⟨rfl, rfl⟩ := hcut
    have hBx2 : Below w.heap.size w x2.w := by (repeat' (first | (with_reducible exact Below.refl _ _) | (with_reducible assumption) | (with_reducible refine Below.alloc ?_ ?_ _) | (with_reducible refine Below.drew ?_) | (with_reducible refine below_drewN ?_ _) | (with_reducible refine Below.setCell ?_ ?_ _) | (with_reducible refine below_after ?_ ?_ _) | (with_reducible refine below_set ?_) | (with_reducible refine After.size_le _ ?_) | (with_reducible refine size_alloc_le ?_) | (with_reducible refine size_set_le ?_) | (with_reducible refine size_drewN_le ?_) | go_size))
    have HPx : Hid (Prc (x2.w.alloc (.cells #[] 73)) (x2.w.alloc (.cells #[] 73)).heap.size (.slice a ps.length cap) ps) := prc_on HP.out (hBx2.alloc hBx2.size _)
    obtain ⟨i0, hi, hz0, hz1, hz2⟩ := info_parts useInfo
    go_wp2_with (first
      | (at_builtin; refine append_prc rfl _ _ 57 rfl x2.w.heap.size 73 i0 (.agg #[.int .i64 0, .int .i64 0]) Try.underlying57 hi hz0 hz1 hz2 rfl _ rfl (World.ownsRow_lit x2.w #[] 0 (Nat.le_refl _) (by unfold maxLen; omega) rfl) _ rfl ps HPx.out (by omega) (by simp) ?_; intro v1 w1 hown1 hgrow1; have HB1 := Lib.hid (((Below.refl x2.w.heap.size x2.w).alloc (Nat.le_refl _) (.cells #[] 73)).grown hgrow1 (by simp) (fun j e => by cases e; exact Nat.le_refl _)); have HO1 := Lib.hid hown1; clear hown1 hgrow1)
      | (at_builtin; refine wpList_append_own _ rfl _ _ 57 rfl x2.w.heap.size 73 i0 (.agg #[.int .i64 0, .int .i64 0]) 2 16 Try.underlying57 hi hz0 hz1 hz2 rfl (by decide) _ ps.length (pcv ps) rfl (HO1.out.alloc _) ⟨w1.heap.size, 0, none⟩ 1 1 [.int .i64 day, .int .i64 n] rfl rfl (World.news_of_block (cs := #[.int .i64 day, .int .i64 n]) (t := 73) (fr := (0, 0)) (heap_alloc_new w1 _)) (by simp [Value.oneCell']) (by unfold maxLen; omega) (by omega) (by simp; have := HB1.out.size; omega) ?_; intro v2 w2 hown2 hgrow2 _; have hp2 : Prc w2 w2.heap.size v2 (ps ++ [(day, n)]) := prc_own (by rw [pcv_snoc]; simpa using hown2) (by simp); obtain ⟨y, rfl⟩ : ∃ y : After x2.w, w2 = y.w := ⟨⟨w2, (HB1.out.alloc HB1.out.size _).grown hgrow2 (by simp; have := HB1.out.size; omega) (fun j e => (HO1.out.lt j e).1)⟩, rfl⟩; obtain ⟨a2, cap2, rfl⟩ := prc_slice hp2; have HP2 := Lib.hid hp2; clear hown2 hgrow2 hp2 HB1 HO1; have z3 := y.out.size; have k7 : w.heap.size < y.w.heap.size := (by omega); have k8 : w.heap.size + 1 < y.w.heap.size := (by omega)))
    have hp3 : Prc y.w y.w.heap.size (.slice a2 (ps.length + 1) cap2) (ps ++ [(day, n)]) := by simpa using HP2.out
    refine calls_after2 (H3.out _ y.w hp3 y.w (Below.refl _ _)) ?_
    clear hp3 HP2
    intro x3
    clear H3
    have z4 := x3.out.size
    have k9 : w.heap.size < x3.w.heap.size := by omega
    have k10 : w.heap.size + 1 < x3.w.heap.size := by omega
    go_upto_region 12 with (fail)
    go_cut [86] (fun s wx => s = .bool false ∧ wx = x3.w)
    case first =>
      clear H4 H5 H6
      by_cases c1 : E2 = 0
      · have c1' : (E2 == 0) = true := by simpa using c1
        have c3' : decide (A < B2) = false := decide_eq_false (by have := F2.out c1; omega)
        clear c1
        go_wp2
        all_goals (go_meet; case rel => exact ⟨rfl, rfl⟩)
      · have c1' : (E2 == 0) = false := by simpa using c1
        clear c1
        go_wp2
        all_goals (go_meet; case rel => exact ⟨rfl, rfl⟩)
    case rest =>
      obtain ⟨rfl, rfl⟩ := hcut
      go_wp2_with fail
      refine calls_after2 (H4.out _ (by (repeat' (first | (with_reducible exact Below.refl _ _) | (with_reducible assumption) | (with_reducible refine Below.alloc ?_ ?_ _) | (with_reducible refine Below.drew ?_) | (with_reducible refine below_drewN ?_ _) | (with_reducible refine Below.setCell ?_ ?_ _) | (with_reducible refine below_after ?_ ?_ _) | (with_reducible refine below_set ?_) | (with_reducible refine After.size_le _ ?_) | (with_reducible refine size_alloc_le ?_) | (with_reducible refine size_set_le ?_) | (with_reducible refine size_drewN_le ?_) | go_size)))) ?_
      intro x4
      clear H4
      have z5 := x4.out.size
      have k11 : w.heap.size < x4.w.heap.size := by omega
      have k12 : w.heap.size + 1 < x4.w.heap.size := by omega
      obtain ⟨c, hc⟩ : ∃ c : Bool, c = (decide (E3 = 0) && M && decide (0 ≤ m) && decide (m ≤ n)) := ⟨_, rfl⟩
      have HC := Lib.hid hc
      clear hc
      go_upto_region 15 with (fail)
      go_cut [108] (fun s wx => s = .bool c ∧ wx = x4.w)
      case first =>
        clear H5 H6
        by_cases c1 : E3 = 0
        · have c1' : (E3 == 0) = true := by simpa using c1
          have C1 := Lib.hid c1
          clear c1
          cases M
          · go_wp2
            all_goals (go_meet; case rel => exact ⟨by rw [HC.out]; have := C1.out; simp; (try omega), rfl⟩)
          · by_cases c2 : 0 ≤ m
            · have c2' : decide (0 ≤ m) = true := decide_eq_true c2
              by_cases c3 : m ≤ n
              · have c3' : decide (m ≤ n) = true := decide_eq_true c3
                go_wp2
                all_goals (go_meet; case rel => exact ⟨by rw [HC.out]; have := C1.out; simp; (try omega), rfl⟩)
              · have c3' : decide (m ≤ n) = false := decide_eq_false c3
                go_wp2
                all_goals (go_meet; case rel => exact ⟨by rw [HC.out]; have := C1.out; simp; (try omega), rfl⟩)
            · have c2' : decide (0 ≤ m) = false := decide_eq_false c2
              go_wp2
              all_goals (go_meet; case rel => exact ⟨by rw [HC.out]; have := C1.out; simp; (try omega), rfl⟩)
        · have c1' : (E3 == 0) = false := by simpa using c1
          have C1 := Lib.hid c1
          clear c1
          go_wp2
          all_goals (go_meet; case rel => exact ⟨by rw [HC.out]; have := C1.out; simp; (try omega), rfl⟩)
      case rest =>
        obtain ⟨rfl, rfl⟩ := hcut
        go_upto_if 108 with (fail)
        go_cut [20] (fun _ wx => ∃ z : After x2.w, wx = z.w)
        case first =>
          clear H6
          cases c
          · go_wp2
            all_goals (go_meet; case rel => exact ⟨x4, rfl⟩)
          · have hq := and4 HC.out
            obtain ⟨e4, n4⟩ := F3.out hq.1 hq.2.1 hq.2.2.1 hq.2.2.2
            clear hq HC F3
            subst e4 n4
            go_wp2_with fail
            refine calls_after2 (H5.out _ (by (repeat' (first | (with_reducible exact Below.refl _ _) | (with_reducible assumption) | (with_reducible refine Below.alloc ?_ ?_ _) | (with_reducible refine Below.drew ?_) | (with_reducible refine below_drewN ?_ _) | (with_reducible refine Below.setCell ?_ ?_ _) | (with_reducible refine below_after ?_ ?_ _) | (with_reducible refine below_set ?_) | (with_reducible refine After.size_le _ ?_) | (with_reducible refine size_alloc_le ?_) | (with_reducible refine size_set_le ?_) | (with_reducible refine size_drewN_le ?_) | go_size)))) ?_
            intro x5
            go_wp2
            all_goals (go_meet; case rel => exact ⟨x5, rfl⟩)
        case rest =>
          obtain ⟨z, rfl⟩ := hcut
          have z6 := z.out.size
          have k13 : w.heap.size < z.w.heap.size := by omega
          have k14 : w.heap.size + 1 < z.w.heap.size := by omega
          clear H5 F1 F2 F3 HC
          rcases F5.out with ⟨rfl, hA⟩ | ⟨rfl, he⟩
          · have hAd : decide (l ≤ A) = true := decide_eq_true hA
            go_wp2_with fail
            refine calls_after2 (H6.out _ (by (repeat' (first | (with_reducible exact Below.refl _ _) | (with_reducible assumption) | (with_reducible refine Below.alloc ?_ ?_ _) | (with_reducible refine Below.drew ?_) | (with_reducible refine below_drewN ?_ _) | (with_reducible refine Below.setCell ?_ ?_ _) | (with_reducible refine below_after ?_ ?_ _) | (with_reducible refine below_set ?_) | (with_reducible refine After.size_le _ ?_) | (with_reducible refine size_alloc_le ?_) | (with_reducible refine size_set_le ?_) | (with_reducible refine size_drewN_le ?_) | go_size)))) ?_
            intro x6
            have z7 := x6.out.size
            have k15 : w.heap.size < x6.w.heap.size := by omega
            have k16 : w.heap.size + 1 < x6.w.heap.size := by omega
            go_wp2_with fail
            refine calls_after2 (awake_any _) ?_
            intro x7
            go_wp2
            go_ret
            exact ⟨rfl, by (repeat' (first | (with_reducible exact Below.refl _ _) | (with_reducible assumption) | (with_reducible refine Below.alloc ?_ ?_ _) | (with_reducible refine Below.drew ?_) | (with_reducible refine below_drewN ?_ _) | (with_reducible refine Below.setCell ?_ ?_ _) | (with_reducible refine below_after ?_ ?_ _) | (with_reducible refine below_set ?_) | (with_reducible refine After.size_le _ ?_) | (with_reducible refine size_alloc_le ?_) | (with_reducible refine size_set_le ?_) | (with_reducible refine size_drewN_le ?_) | go_size))⟩
          · by_cases hA : A < l
            · have h1 : decide (A < l) = true := decide_eq_true hA
              have h2 : decide (R ≤ day) = true := by rw [he, h1]
              clear he
              go_wp2_with fail
              refine calls_after2 (H6.out _ (by (repeat' (first | (with_reducible exact Below.refl _ _) | (with_reducible assumption) | (with_reducible refine Below.alloc ?_ ?_ _) | (with_reducible refine Below.drew ?_) | (with_reducible refine below_drewN ?_ _) | (with_reducible refine Below.setCell ?_ ?_ _) | (with_reducible refine below_after ?_ ?_ _) | (with_reducible refine below_set ?_) | (with_reducible refine After.size_le _ ?_) | (with_reducible refine size_alloc_le ?_) | (with_reducible refine size_set_le ?_) | (with_reducible refine size_drewN_le ?_) | go_size)))) ?_
              intro x6
              have z7 := x6.out.size
              have k15 : w.heap.size < x6.w.heap.size := by omega
              have k16 : w.heap.size + 1 < x6.w.heap.size := by omega
              go_wp2_with fail
              refine calls_after2 (awake_any _) ?_
              intro x7
              go_wp2
              go_ret
              exact ⟨rfl, by (repeat' (first | (with_reducible exact Below.refl _ _) | (with_reducible assumption) | (with_reducible refine Below.alloc ?_ ?_ _) | (with_reducible refine Below.drew ?_) | (with_reducible refine below_drewN ?_ _) | (with_reducible refine Below.setCell ?_ ?_ _) | (with_reducible refine below_after ?_ ?_ _) | (with_reducible refine below_set ?_) | (with_reducible refine After.size_le _ ?_) | (with_reducible refine size_alloc_le ?_) | (with_reducible refine size_set_le ?_) | (with_reducible refine size_drewN_le ?_) | go_size))⟩
            · have h1 : decide (A < l) = false := decide_eq_false hA
              have h2 : decide (R ≤ day) = false := by rw [he, h1]
              clear he
              go_wp2_with fail
              refine calls_after2 (H6.out _ (by (repeat' (first | (with_reducible exact Below.refl _ _) | (with_reducible assumption) | (with_reducible refine Below.alloc ?_ ?_ _) | (with_reducible refine Below.drew ?_) | (with_reducible refine below_drewN ?_ _) | (with_reducible refine Below.setCell ?_ ?_ _) | (with_reducible refine below_after ?_ ?_ _) | (with_reducible refine below_set ?_) | (with_reducible refine After.size_le _ ?_) | (with_reducible refine size_alloc_le ?_) | (with_reducible refine size_set_le ?_) | (with_reducible refine size_drewN_le ?_) | go_size)))) ?_
              intro x6
              have z7 := x6.out.size
              have k15 : w.heap.size < x6.w.heap.size := by omega
              have k16 : w.heap.size + 1 < x6.w.heap.size := by omega
              go_wp2_with fail
              refine calls_after2 (awake_any _) ?_
              intro x7
              go_wp2
              go_ret
              exact ⟨rfl, by (repeat' (first | (with_reducible exact Below.refl _ _) | (with_reducible assumption) | (with_reducible refine Below.alloc ?_ ?_ _) | (with_reducible refine Below.drew ?_) | (with_reducible refine below_drewN ?_ _) | (with_reducible refine Below.setCell ?_ ?_ _) | (with_reducible refine below_after ?_ ?_ _) | (with_reducible refine below_set ?_) | (with_reducible refine After.size_le _ ?_) | (with_reducible refine size_alloc_le ?_) | (with_reducible refine size_set_le ?_) | (with_reducible refine size_drewN_le ?_) | go_size))⟩

theorem ropeWears_all (s d l : Int) (v : Value) (ps : List (Int × Int)) (n0 n1 n2 n3 : Int) (w : World) (h : Prc w w.heap.size v ps) :
    Calls Try.prog 12 #[.agg #[.int .i64 s, .int .i64 d, .int .i64 l], v, .agg #[.int .i64 n0, .int .i64 n1, .int .i64 n2, .int .i64 n3]] w fun e w' => e = .returned (.bool true) ∧ Below w.heap.size w w' := by
  by_cases hl : ps.length ≤ 100
  · exact ropeWears_any s d l v ps n0 n1 n2 n3 w h hl
  · obtain ⟨a, cap, rfl⟩ := prc_slice h
    exact ropeWears_long s d l a _ cap n0 n1 n2 n3 w (by omega)
end Go.Proofs.Ytciicijindanlaa
