/- RopeUses: the law's walk. -/
import Derived.Test.YtciicijindanlaaTestr
import Derived.Test.YtciicijindanlaaUsedr
import Derived.Deep.RegionWith
namespace Go.Proofs.Ytciicijindanlaa
open Go.RowKit
attribute [local go_sem] After.cell After.frozen After.lt After.le After.ne After.ne' After.set_eq After.size_set After.lt_add

set_option maxRecDepth 100000 in
set_option maxHeartbeats 1000000 in
theorem ropeUses_long (s d l : Int) (a : Option Addr) (n cap : Nat) (n0 n1 : Int) (w : World) (h : 700 < n) :
    Calls Try.prog 13 #[.agg #[.int .i64 s, .int .i64 d, .int .i64 l], .slice a n cap, .agg #[.int .i64 n0, .int .i64 n1]] w fun e w' => e = .returned (.bool true) ∧ Below w.heap.size w w' := by
  have d1 : decide ((700 : Int) < (n : Int)) = true := decide_eq_true (by omega)
  go_enter Try.func13, Try.ntmps13
  go_wp2_with fail
  refine calls_after (awake_any _) ?_
  intro x1
  go_wp2
  go_ret
  exact ⟨rfl, by (repeat' (first | (with_reducible exact Below.refl _ _) | (with_reducible assumption) | (with_reducible refine Below.alloc ?_ ?_ _) | (with_reducible refine Below.drew ?_) | (with_reducible refine below_drewN ?_ _) | (with_reducible refine Below.setCell ?_ ?_ _) | (with_reducible refine below_after ?_ ?_ _) | (with_reducible refine below_set ?_) | (with_reducible refine After.size_le _ ?_) | (with_reducible refine size_alloc_le ?_) | (with_reducible refine size_set_le ?_) | (with_reducible refine size_drewN_le ?_) | go_size))⟩

theorem uL_le (s d l : Int) (ps : List (Int × Int)) (day n : Int) : (uL s d l ps day n).length ≤ ps.length + 1 := by
  unfold uL; split <;> simp
theorem after_of {x w1 : World} (h : Below x.heap.size x w1) : ∃ y : After x, w1 = y.w := ⟨⟨w1, h⟩, rfl⟩

set_option maxRecDepth 100000 in
set_option maxHeartbeats 4000000 in
theorem ropeUses_any (s d l : Int) (v : Value) (ps : List (Int × Int)) (n0 n1 : Int) (w : World) (h : Prc w w.heap.size v ps) (hl : ps.length ≤ 700) :
    Calls Try.prog 13 #[.agg #[.int .i64 s, .int .i64 d, .int .i64 l], v, .agg #[.int .i64 n0, .int .i64 n1]] w fun e w' => e = .returned (.bool true) ∧ Below w.heap.size w w' := by
  obtain ⟨a, cap, hv⟩ := prc_slice h
  have d1 : decide ((700 : Int) < (ps.length : Int)) = false := decide_eq_false (by omega)
  have HA : Hid (0 < ps.length → ∃ b off, a = some ⟨b, off, none⟩ ∧ b < w.heap.size ∧ PrCells w b off ps) := fun h0 => by
    rcases h with ⟨_, rfl⟩ | ⟨_, _, _, _, rfl⟩ | ⟨b, off, c', e, _, _, _, hb, hc⟩
    · simp at h0
    · simp at h0
    · rw [hv] at e; cases e; exact ⟨b, off, rfl, hb, hc⟩
  have H1 : Hid (∀ W, Below w.heap.size w W → _) := fun W hW => used_any s d l n0 n1 v ps W (prc_on h hW) (by omega)
  have H2 : Hid (∀ W, Below w.heap.size w W → _) := fun W hW => rused_any s d l n0 n1 v ps W (prc_on h hW) (by omega)
  have hL := uL_le s d l ps n0 n1
  unfold UsedAns at H1 H2
  clear h
  subst hv
  have HU : Hid (∀ A : List (Int × Int), A.length ≤ 1000 → ∀ (va : Value) (W : World), Prc W W.heap.size va A → ∀ day n : Int, _) := fun A hA va W hp day n => used_any s d l day n va A W hp hA
  unfold UsedAns at HU
  have HN : Hid (∀ (A : List (Int × Int)) (day n : Int), NoneWrong s d l A → uE s d l A day n = 0 → NoneWrong s d l (A ++ [(day, n)])) := fun A day n h1 h2 => noneWrong_snoc h1 h2
  have HE : Hid (∀ (A : List (Int × Int)) (day n : Int), uE s d l A day n = 0 → uL s d l A day n = A ++ [(day, n)]) := fun A day n h => by unfold uL; rw [if_pos h]
  generalize uL s d l ps n0 n1 = L at *
  generalize uE s d l ps n0 n1 = E at *
  go_enter Try.func13, Try.ntmps13
  go_wp2_with fail
  refine (H1.out _ (by (repeat' (first | (with_reducible exact Below.refl _ _) | (with_reducible assumption) | (with_reducible refine Below.alloc ?_ ?_ _) | (with_reducible refine Below.drew ?_) | (with_reducible refine below_drewN ?_ _) | (with_reducible refine Below.setCell ?_ ?_ _) | (with_reducible refine below_after ?_ ?_ _) | (with_reducible refine below_set ?_) | (with_reducible refine After.size_le _ ?_) | (with_reducible refine size_alloc_le ?_) | (with_reducible refine size_set_le ?_) | (with_reducible refine size_drewN_le ?_) | go_size)))).mono ?_
  rintro e w1 ⟨v1, rfl, hr1, hb1⟩
  have HR1 := Lib.hid hr1
  obtain ⟨x1, rfl⟩ := after_of hb1
  obtain ⟨a1, cap1, rfl⟩ := prc_slice (prc_owns hr1)
  clear hr1 hb1 H1
  have z1 := x1.out.size
  rw [World.size_alloc, World.size_alloc] at z1
  have k1 : w.heap.size < x1.w.heap.size := by omega
  have k2 : w.heap.size + 1 < x1.w.heap.size := by omega
  go_wp2_with fail
  refine (H2.out _ (by (repeat' (first | (with_reducible exact Below.refl _ _) | (with_reducible assumption) | (with_reducible refine Below.alloc ?_ ?_ _) | (with_reducible refine Below.drew ?_) | (with_reducible refine below_drewN ?_ _) | (with_reducible refine Below.setCell ?_ ?_ _) | (with_reducible refine below_after ?_ ?_ _) | (with_reducible refine below_set ?_) | (with_reducible refine After.size_le _ ?_) | (with_reducible refine size_alloc_le ?_) | (with_reducible refine size_set_le ?_) | (with_reducible refine size_drewN_le ?_) | go_size)))).mono ?_
  rintro e w2 ⟨v2, rfl, hr2, hb2⟩
  have HS := Lib.hid (sameU_own (by omega) (owns_below HR1.out hb2) hr2)
  obtain ⟨x2, rfl⟩ := after_of hb2
  obtain ⟨a2, cap2, rfl⟩ := prc_slice (prc_owns hr2)
  clear hr2 hb2 H2 HR1
  have z2 := x2.out.size
  have k3 : w.heap.size < x2.w.heap.size := by omega
  have k4 : w.heap.size + 1 < x2.w.heap.size := by omega
  go_wp2_with fail
  refine calls_after2 HS.out ?_
  intro x3
  clear HS
  have z3 := x3.out.size
  have k5 : w.heap.size < x3.w.heap.size := by omega
  have k6 : w.heap.size + 1 < x3.w.heap.size := by omega
  by_cases h40 : 40 < ps.length
  · have d2 : decide ((40 : Int) < (ps.length : Int)) = true := decide_eq_true (by omega)
    go_wp2_with fail
    refine calls_after2 (awake_any _) ?_
    intro x4
    go_wp2
    go_ret
    exact ⟨rfl, by (repeat' (first | (with_reducible exact Below.refl _ _) | (with_reducible assumption) | (with_reducible refine Below.alloc ?_ ?_ _) | (with_reducible refine Below.drew ?_) | (with_reducible refine below_drewN ?_ _) | (with_reducible refine Below.setCell ?_ ?_ _) | (with_reducible refine below_after ?_ ?_ _) | (with_reducible refine below_set ?_) | (with_reducible refine After.size_le _ ?_) | (with_reducible refine size_alloc_le ?_) | (with_reducible refine size_set_le ?_) | (with_reducible refine size_drewN_le ?_) | go_size))⟩
  · have d2 : decide ((40 : Int) < (ps.length : Int)) = false := decide_eq_false (by omega)
    go_wp2_with fail
    go_loopw [11, 12, 13, 14] (fun va i _ _ wr => ∃ k : Nat, k ≤ ps.length ∧ i = .int .i64 k ∧ ∃ A : List (Int × Int), A.length ≤ k ∧ Hid (NoneWrong s d l A) ∧ ∃ x : After x3.w, wr = x.w ∧ Hid (x.w.ownsRow x3.w.heap.size 73 2 va A.length (pcv A))) (fun _ i _ _ _ => ps.length - (intOf i).toNat)
    case atStart => exact ⟨0, by omega, rfl, [], by simp, Lib.hid (noneWrong_nil s d l), ⟨x3.w, Below.refl _ _⟩, rfl, Lib.hid (World.ownsRow_nil _ _ _ _)⟩
    case round =>
      obtain ⟨k, hk, rfl, A, hA, HW, x, rfl, HO⟩ := hrel
      have hsx := x.out.size
      have k7 : w.heap.size < x.w.heap.size := by omega
      have k8 : w.heap.size + 1 < x.w.heap.size := by omega
      obtain ⟨a3, cap3, rfl⟩ := prc_slice (prc_owns HO.out)
      by_cases hlt : k < ps.length
      · obtain ⟨b, off, rfl, hb, hc⟩ := HA.out (by omega)
        obtain ⟨c1, c2⟩ := hc k hlt
        have HUA := Lib.hid (HU.out A (by omega))
        have HEA := Lib.hid (HE.out A)
        have HNA := Lib.hid (fun day n => HN.out A day n HW.out)
        generalize ps.getD k (0, 0) = p at *
        obtain ⟨hh, vv⟩ := p
        dsimp only at *
        have y1 : b < x1.w.heap.size := by omega
        have y2 : b < x2.w.heap.size := by omega
        have y3 : b < x3.w.heap.size := by omega
        have y4 : b < x.w.heap.size := by omega
        have y5 : b < w.heap.size + 1 := by omega
        have y6 : b < w.heap.size + 1 + 1 := by omega
        have hL5 := uL_le s d l A hh vv
        have HUx : Hid (∀ W, Below x.w.heap.size x.w W → Calls Try.prog 55 #[.agg #[.int .i64 s, .int .i64 d, .int .i64 l], .slice a3 A.length cap3, .int .i64 hh, .int .i64 vv] W fun e w' =>
            ∃ (a5 : Option Addr) (cap5 : Nat) (z : After x3.w), e = .returned (.tuple #[.slice a5 (uL s d l A hh vv).length cap5, .int .i64 (uE s d l A hh vv)]) ∧ w' = z.w ∧
              Hid (z.w.ownsRow x3.w.heap.size 73 2 (.slice a5 (uL s d l A hh vv).length cap5) (uL s d l A hh vv).length (pcv (uL s d l A hh vv))) ∧ Hid (z.w.ownsRow x3.w.heap.size 73 2 (.slice a3 A.length cap3) A.length (pcv A))) := fun W hW =>
          (HUA.out _ W (prc_on (prc_owns HO.out) hW) hh vv).mono fun e w' ⟨v5, h1, hr5, hb5⟩ => by
            obtain ⟨a5, cap5, rfl⟩ := prc_slice (prc_owns hr5)
            exact ⟨a5, cap5, ⟨w', x.out.trans ((hW.trans (hb5.mono hW.size)).mono hsx)⟩, h1, rfl, Lib.hid (hr5.mono (Nat.le_trans hsx hW.size)), Lib.hid (owns_below (owns_below HO.out hW) hb5)⟩
        by_cases h0 : uE s d l A hh vv = 0
        · have e5 := HEA.out hh vv h0
          have HW5 := Lib.hid (HNA.out hh vv h0)
          have d5 : (uE s d l A hh vv == 0) = true := by simpa using h0
          rw [← e5] at HW5
          clear h0 e5 HEA HNA HUA hc HA HU HE HN
          generalize uE s d l A hh vv = E5 at *
          generalize uL s d l A hh vv = L5 at *
          go_wp2_with fail
          go_region_with (go_at_call 55; refine (HUx.out _ (by (repeat' (first | (with_reducible exact Below.refl _ _) | (with_reducible assumption) | (with_reducible refine Below.alloc ?_ ?_ _) | (with_reducible refine Below.drew ?_) | (with_reducible refine below_drewN ?_ _) | (with_reducible refine Below.setCell ?_ ?_ _) | (with_reducible refine below_after ?_ ?_ _) | (with_reducible refine below_set ?_) | (with_reducible refine After.size_le _ ?_) | (with_reducible refine size_alloc_le ?_) | (with_reducible refine size_set_le ?_) | (with_reducible refine size_drewN_le ?_) | go_size)))).mono ?_; rintro e w5 ⟨a5, cap5, z, rfl, rfl, HR5, HOz⟩)
          all_goals
            go_wp2
            go_roundw
            case rel => exact ⟨k + 1, by omega, by go_num, L5, by omega, HW5, z, rfl, HR5⟩
            case measure => simp [intOf]; omega
        · have d5 : (uE s d l A hh vv == 0) = false := by simpa using h0
          clear h0 HEA HNA HUA hc HA HU HE HN
          generalize uE s d l A hh vv = E5 at *
          generalize uL s d l A hh vv = L5 at *
          go_wp2_with fail
          go_region_with (go_at_call 55; refine (HUx.out _ (by (repeat' (first | (with_reducible exact Below.refl _ _) | (with_reducible assumption) | (with_reducible refine Below.alloc ?_ ?_ _) | (with_reducible refine Below.drew ?_) | (with_reducible refine below_drewN ?_ _) | (with_reducible refine Below.setCell ?_ ?_ _) | (with_reducible refine below_after ?_ ?_ _) | (with_reducible refine below_set ?_) | (with_reducible refine After.size_le _ ?_) | (with_reducible refine size_alloc_le ?_) | (with_reducible refine size_set_le ?_) | (with_reducible refine size_drewN_le ?_) | go_size)))).mono ?_; rintro e w5 ⟨a5, cap5, z, rfl, rfl, HR5, HOz⟩)
          all_goals
            go_wp2
            go_roundw
            case rel => exact ⟨k + 1, by omega, by go_num, A, by omega, HW, z, rfl, HOz⟩
            case measure => simp [intOf]; omega
      · obtain rfl : k = ps.length := by omega
        clear HU HN HE HA
        have hN := HW.out.1
        by_cases hR : GoodR s d l
        · have HX : Hid (∀ W, Below x.w.heap.size x.w W → _) := fun W hW => wrong_any s d l (.slice a3 A.length cap3) A W (prc_on (prc_owns HO.out) hW) ⟨hR, hN⟩
          unfold WrAns at HX
          rw [noneWrong_wrL HW.out] at HX
          clear hN HW
          go_wp2_with fail
          refine (HX.out _ (by (repeat' (first | (with_reducible exact Below.refl _ _) | (with_reducible assumption) | (with_reducible refine Below.alloc ?_ ?_ _) | (with_reducible refine Below.drew ?_) | (with_reducible refine below_drewN ?_ _) | (with_reducible refine Below.setCell ?_ ?_ _) | (with_reducible refine below_after ?_ ?_ _) | (with_reducible refine below_set ?_) | (with_reducible refine After.size_le _ ?_) | (with_reducible refine size_alloc_le ?_) | (with_reducible refine size_set_le ?_) | (with_reducible refine size_drewN_le ?_) | go_size)))).mono ?_
          rintro e w6 ⟨v6, rfl, hr6, hb6⟩
          obtain ⟨x6, rfl⟩ := after_of hb6
          rcases Go.Joins.ownsRow_forms hr6 with ⟨rfl, _⟩ | ⟨g, c, rfl⟩
          all_goals
            clear hr6 hb6 HX
            go_wp2_with fail
            refine calls_after2 (awake_any _) ?_
            intro x7
            go_wp2
            go_ret
            exact ⟨rfl, by (repeat' (first | (with_reducible exact Below.refl _ _) | (with_reducible assumption) | (with_reducible refine Below.alloc ?_ ?_ _) | (with_reducible refine Below.drew ?_) | (with_reducible refine below_drewN ?_ _) | (with_reducible refine Below.setCell ?_ ?_ _) | (with_reducible refine below_after ?_ ?_ _) | (with_reducible refine below_set ?_) | (with_reducible refine After.size_le _ ?_) | (with_reducible refine size_alloc_le ?_) | (with_reducible refine size_set_le ?_) | (with_reducible refine size_drewN_le ?_) | go_size))⟩
        · have HX : Hid (∀ W, Below x.w.heap.size x.w W → _) := fun W hW => wrong_bad s d l (.slice a3 A.length cap3) A W (prc_on (prc_owns HO.out) hW) (by omega) (fun h => hR h.1)
          have HV : Hid (∀ W, Calls Try.prog 43 #[.agg #[.int .i64 s, .int .i64 d, .int .i64 l]] W fun e w' => e = .returned (.bool false) ∧ Below W.heap.size W w') := fun W => by
            have := rvalidRope_any s d l W
            rwa [show decide (GoodR s d l) = false by simp [hR]] at this
          clear hN HW
          go_wp2_with fail
          refine calls_after (HX.out _ (by (repeat' (first | (with_reducible exact Below.refl _ _) | (with_reducible assumption) | (with_reducible refine Below.alloc ?_ ?_ _) | (with_reducible refine Below.drew ?_) | (with_reducible refine below_drewN ?_ _) | (with_reducible refine Below.setCell ?_ ?_ _) | (with_reducible refine below_after ?_ ?_ _) | (with_reducible refine below_set ?_) | (with_reducible refine After.size_le _ ?_) | (with_reducible refine size_alloc_le ?_) | (with_reducible refine size_set_le ?_) | (with_reducible refine size_drewN_le ?_) | go_size)))) ?_
          intro x6
          have z6 := x6.out.size
          have k9 : w.heap.size < x6.w.heap.size := by omega
          go_wp2_with fail
          refine calls_after2 (HV.out _) ?_
          intro x7
          go_wp2_with fail
          refine calls_after2 (awake_any _) ?_
          intro x8
          go_wp2
          go_ret
          exact ⟨rfl, by (repeat' (first | (with_reducible exact Below.refl _ _) | (with_reducible assumption) | (with_reducible refine Below.alloc ?_ ?_ _) | (with_reducible refine Below.drew ?_) | (with_reducible refine below_drewN ?_ _) | (with_reducible refine Below.setCell ?_ ?_ _) | (with_reducible refine below_after ?_ ?_ _) | (with_reducible refine below_set ?_) | (with_reducible refine After.size_le _ ?_) | (with_reducible refine size_alloc_le ?_) | (with_reducible refine size_set_le ?_) | (with_reducible refine size_drewN_le ?_) | go_size))⟩

theorem ropeUses_all (s d l : Int) (v : Value) (ps : List (Int × Int)) (n0 n1 : Int) (w : World) (h : Prc w w.heap.size v ps) :
    Calls Try.prog 13 #[.agg #[.int .i64 s, .int .i64 d, .int .i64 l], v, .agg #[.int .i64 n0, .int .i64 n1]] w fun e w' => e = .returned (.bool true) ∧ Below w.heap.size w w' := by
  by_cases hl : ps.length ≤ 700
  · exact ropeUses_any s d l v ps n0 n1 w h hl
  · obtain ⟨a, cap, rfl⟩ := prc_slice h
    exact ropeUses_long s d l a _ cap n0 n1 w (by omega)
end Go.Proofs.Ytciicijindanlaa
