/- rope.Used. -/
import Derived.Test.YtciicijindanlaaUsedm
namespace Go.Proofs.Ytciicijindanlaa
open Go.RowKit
attribute [local go_sem] After.cell After.frozen After.lt After.le After.ne After.ne' After.set_eq After.size_set After.lt_add

set_option maxHeartbeats 400000 in
theorem last_empty (a : Option Addr) (cap : Nat) (w : World) :
    Calls Try.prog 92 #[.slice a 0 cap] w fun e w' => e = .returned (.int .i64 0) ∧ w = w' := by
  go_enter Try.func92, Try.ntmps92
  go_wp2
  go_ret
  exact ⟨rfl, rfl⟩
theorem last_any (v : Value) (ps : List (Int × Int)) (w : World) (h : Prc w w.heap.size v ps) (hl : ps.length ≤ 1000) :
    Calls Try.prog 92 #[v] w fun e w' => e = .returned (.int .i64 (lastN ps ps.length)) ∧ Below w.heap.size w w' := by
  have hb0 : ∀ {w' : World}, w = w' → Below w.heap.size w w' := fun e => by subst e; exact Below.refl _ _
  rcases h with ⟨rfl, rfl⟩ | ⟨p, cap, rfl, _, rfl⟩ | ⟨b, off, cap, rfl, h0, h1, h2, hb, hc⟩
  · exact (last_empty _ _ w).mono fun e w' ⟨h1, h2⟩ => ⟨h1, hb0 h2⟩
  · exact (last_empty _ _ w).mono fun e w' ⟨h1, h2⟩ => ⟨h1, hb0 h2⟩
  · exact (last_row b off cap ps.length ps w (Nat.le_refl _) hl hc).mono fun e w' ⟨h1, h2⟩ => ⟨h1, hb0 h2⟩
/-- The two lists that are put together. -/
theorem concat_two (ps : List (Int × Int)) (day n : Int) (v : Value) (w : World) (hp : Prc w w.heap.size v ps) (hl : ps.length < 500) :
    Calls Try.prog 93 #[.slice (some ⟨w.heap.size + 1, 0, none⟩) 2 2] ((w.alloc (.cells #[.int .i64 day, .int .i64 n] 73)).alloc (.cells #[v, .slice (some ⟨w.heap.size, 0, none⟩) 1 1] 57))
      fun e w' => ∃ u, e = .returned u ∧ w'.ownsRow (w.heap.size + 2) 73 2 u (ps ++ [(day, n)]).length (pcv (ps ++ [(day, n)])) ∧ Below (w.heap.size + 2) ((w.alloc (.cells #[.int .i64 day, .int .i64 n] 73)).alloc (.cells #[v, .slice (some ⟨w.heap.size, 0, none⟩) 1 1] 57)) w' := by
  have hB : Below w.heap.size w ((w.alloc (.cells #[.int .i64 day, .int .i64 n] 73)).alloc (.cells #[v, .slice (some ⟨w.heap.size, 0, none⟩) 1 1] 57)) := by (repeat' (first | (with_reducible exact Below.refl _ _) | (with_reducible assumption) | (with_reducible refine Below.alloc ?_ ?_ _) | (with_reducible refine Below.drew ?_) | (with_reducible refine below_drewN ?_ _) | (with_reducible refine Below.setCell ?_ ?_ _) | (with_reducible refine below_after ?_ ?_ _) | (with_reducible refine below_set ?_) | (with_reducible refine After.size_le _ ?_) | (with_reducible refine size_alloc_le ?_) | (with_reducible refine size_set_le ?_) | (with_reducible refine size_drewN_le ?_) | go_size))
  have hP := prc_on hp hB
  generalize hW : (w.alloc (.cells #[.int .i64 day, .int .i64 n] 73)).alloc (.cells #[v, .slice (some ⟨w.heap.size, 0, none⟩) 1 1] 57) = W at *
  have hs : W.heap.size = w.heap.size + 2 := by subst hW; simp
  have c0 : W.cell? ⟨w.heap.size + 1, 0, none⟩ = some v := by subst hW; go_simp
  have c1 : W.cell? ⟨w.heap.size + 1, 1, none⟩ = some (.slice (some ⟨w.heap.size, 0, none⟩) 1 1) := by subst hW; go_simp
  have c2 : W.cell? ⟨w.heap.size, 0, none⟩ = some (.int .i64 day) := by subst hW; go_simp
  have c3 : W.cell? ⟨w.heap.size, 1, none⟩ = some (.int .i64 n) := by subst hW; go_simp
  have hq : Prc W W.heap.size (.slice (some ⟨w.heap.size, 0, none⟩) 1 1) [(day, n)] := .inr (.inr ⟨w.heap.size, 0, 1, rfl, by simp, by simp, by omega, by omega, fun i hi => by
    obtain rfl : i = 0 := by simp at hi; omega
    exact ⟨c2, c3⟩⟩)
  rw [← hs]
  exact concatU_any 2 (fun k => if k = 0 then v else .slice (some ⟨w.heap.size, 0, none⟩) 1 1) (fun k => if k = 0 then ps else [(day, n)]) (fun k => if k = 0 then [] else if k = 1 then ps else ps ++ [(day, n)]) (w.heap.size + 1) W (by omega) (by omega)
    (fun k hk => by rcases (show k = 0 ∨ k = 1 by omega) with rfl | rfl <;> first | exact c0 | exact c1)
    (fun k hk => by rcases (show k = 0 ∨ k = 1 by omega) with rfl | rfl <;> first | exact hP | exact hq)
    rfl (fun k hk => by rcases (show k = 0 ∨ k = 1 by omega) with rfl | rfl <;> simp)
    (fun k hk => by rcases (show k = 0 ∨ k = 1 ∨ k = 2 by omega) with rfl | rfl | rfl <;> simp <;> omega)
    (by simp)

theorem used_fail {f : FuncId} {args : Array Value} {w : World} {s d l : Int} {ps : List (Int × Int)} {day n : Int} (h : uE s d l ps day n ≠ 0)
    (H : Calls Try.prog f args w fun e w' => e = .returned (.tuple #[.slice none 0 0, .int .i64 (uE s d l ps day n)]) ∧ Below w.heap.size w w') : Calls Try.prog f args w (UsedAns w s d l ps day n) :=
  H.mono fun e w' ⟨h1, h2⟩ => ⟨_, h1, by rw [uL_none h]; exact World.ownsRow_nil _ _ _ _, h2⟩

set_option maxRecDepth 100000 in
set_option maxHeartbeats 1000000 in
theorem used_any (s d l day n : Int) (v : Value) (ps : List (Int × Int)) (w : World) (h : Prc w w.heap.size v ps) (hl : ps.length ≤ 1000) :
    Calls Try.prog 55 #[.agg #[.int .i64 s, .int .i64 d, .int .i64 l], v, .int .i64 day, .int .i64 n] w (UsedAns w s d l ps day n) := by
  obtain ⟨a, cap, hv⟩ := prc_slice h
  have HC : Hid (∀ W, Below w.heap.size w W → _) := fun W hW => check_any s d l v ps day n W (prc_on h hW) hl
  rcases uE_cases s d l ps day n with ⟨h1, h2⟩ | ⟨e, hG, hD, hn, hcase⟩
  · refine used_fail (by omega) ?_
    rw [h2]
    rcases erN_cases s d l ps day n with ⟨e, _⟩ | e | e
    · exact absurd e h1
    all_goals
      rw [e] at HC ⊢
      clear h h1 h2 e
      subst hv
      generalize ps.length = m at *
      go_enter Try.func55, Try.ntmps55
      go_wp2_with fail
      refine calls_after (HC.out _ (by (repeat' (first | (with_reducible exact Below.refl _ _) | (with_reducible assumption) | (with_reducible refine Below.alloc ?_ ?_ _) | (with_reducible refine Below.drew ?_) | (with_reducible refine below_drewN ?_ _) | (with_reducible refine Below.setCell ?_ ?_ _) | (with_reducible refine below_after ?_ ?_ _) | (with_reducible refine below_set ?_) | (with_reducible refine After.size_le _ ?_) | (with_reducible refine size_alloc_le ?_) | (with_reducible refine size_set_le ?_) | (with_reducible refine size_drewN_le ?_) | go_size)))) ?_
      intro x1
      go_wp2
      go_returns
      exact ⟨rfl, by (repeat' (first | (with_reducible exact Below.refl _ _) | (with_reducible assumption) | (with_reducible refine Below.alloc ?_ ?_ _) | (with_reducible refine Below.drew ?_) | (with_reducible refine below_drewN ?_ _) | (with_reducible refine Below.setCell ?_ ?_ _) | (with_reducible refine below_after ?_ ?_ _) | (with_reducible refine below_set ?_) | (with_reducible refine After.size_le _ ?_) | (with_reducible refine size_alloc_le ?_) | (with_reducible refine size_set_le ?_) | (with_reducible refine size_drewN_le ?_) | go_size))⟩
  rw [e] at HC
  clear e
  have HL : Hid (∀ W, Below w.heap.size w W → _) := fun W hW => last_any v ps W (prc_on h hW) hl
  have HM : Hid (∀ W, Below w.heap.size w W → _) := fun W hW => wmay_any s d l day n v ps W (prc_on h hW) hG hD
  rcases hcase with ⟨c1, e2⟩ | ⟨c1, c2, e2⟩ | ⟨c1, c2, c3, e2⟩ | ⟨c1, c2, c3, e2⟩
  · refine used_fail (by omega) ?_
    rw [e2]
    clear h hG e2 HM
    subst hv
    generalize lastN ps ps.length = q at *
    generalize ps.length = m at *
    have d1 : decide (day < q) = true := decide_eq_true c1
    go_enter Try.func55, Try.ntmps55
    go_wp2_with fail
    refine calls_after (HC.out _ (by (repeat' (first | (with_reducible exact Below.refl _ _) | (with_reducible assumption) | (with_reducible refine Below.alloc ?_ ?_ _) | (with_reducible refine Below.drew ?_) | (with_reducible refine below_drewN ?_ _) | (with_reducible refine Below.setCell ?_ ?_ _) | (with_reducible refine below_after ?_ ?_ _) | (with_reducible refine below_set ?_) | (with_reducible refine After.size_le _ ?_) | (with_reducible refine size_alloc_le ?_) | (with_reducible refine size_set_le ?_) | (with_reducible refine size_drewN_le ?_) | go_size)))) ?_
    intro x1
    clear HC
    have hz_x1 := x1.out.size; (try simp only [World.size_alloc] at hz_x1); (try simp only [World.size_setCell] at hz_x1); (try simp only [World.size_alloc] at hz_x1); have k0_x1 : w.heap.size < x1.w.heap.size := (by omega); have j0_x1 : w.heap.size < x1.w.heap.size + 1 := (by omega); have k1_x1 : w.heap.size + 1 < x1.w.heap.size := (by omega); have j1_x1 : w.heap.size + 1 < x1.w.heap.size + 1 := (by omega)
    go_wp2_with fail
    refine calls_after2 (HL.out _ (by (repeat' (first | (with_reducible exact Below.refl _ _) | (with_reducible assumption) | (with_reducible refine Below.alloc ?_ ?_ _) | (with_reducible refine Below.drew ?_) | (with_reducible refine below_drewN ?_ _) | (with_reducible refine Below.setCell ?_ ?_ _) | (with_reducible refine below_after ?_ ?_ _) | (with_reducible refine below_set ?_) | (with_reducible refine After.size_le _ ?_) | (with_reducible refine size_alloc_le ?_) | (with_reducible refine size_set_le ?_) | (with_reducible refine size_drewN_le ?_) | go_size)))) ?_
    intro x2
    clear HL
    have hz_x2 := x2.out.size; (try simp only [World.size_alloc] at hz_x2); (try simp only [World.size_setCell] at hz_x2); (try simp only [World.size_alloc] at hz_x2); have k0_x2 : w.heap.size < x2.w.heap.size := (by omega); have j0_x2 : w.heap.size < x2.w.heap.size + 1 := (by omega); have k1_x2 : w.heap.size + 1 < x2.w.heap.size := (by omega); have j1_x2 : w.heap.size + 1 < x2.w.heap.size + 1 := (by omega)
    go_wp2
    go_returns
    exact ⟨rfl, by (repeat' (first | (with_reducible exact Below.refl _ _) | (with_reducible assumption) | (with_reducible refine Below.alloc ?_ ?_ _) | (with_reducible refine Below.drew ?_) | (with_reducible refine below_drewN ?_ _) | (with_reducible refine Below.setCell ?_ ?_ _) | (with_reducible refine below_after ?_ ?_ _) | (with_reducible refine below_set ?_) | (with_reducible refine After.size_le _ ?_) | (with_reducible refine size_alloc_le ?_) | (with_reducible refine size_set_le ?_) | (with_reducible refine size_drewN_le ?_) | go_size))⟩
  · refine used_fail (by omega) ?_
    rw [e2]
    clear h hG e2 HM
    subst hv
    generalize lastN ps ps.length = q at *
    generalize ps.length = m at *
    have d1 : decide (day < q) = false := decide_eq_false c1
    have d2 : ((m : Int) == 500) = true := by simp; omega
    clear c2
    go_enter Try.func55, Try.ntmps55
    go_wp2_with fail
    refine calls_after (HC.out _ (by (repeat' (first | (with_reducible exact Below.refl _ _) | (with_reducible assumption) | (with_reducible refine Below.alloc ?_ ?_ _) | (with_reducible refine Below.drew ?_) | (with_reducible refine below_drewN ?_ _) | (with_reducible refine Below.setCell ?_ ?_ _) | (with_reducible refine below_after ?_ ?_ _) | (with_reducible refine below_set ?_) | (with_reducible refine After.size_le _ ?_) | (with_reducible refine size_alloc_le ?_) | (with_reducible refine size_set_le ?_) | (with_reducible refine size_drewN_le ?_) | go_size)))) ?_
    intro x1
    clear HC
    have hz_x1 := x1.out.size; (try simp only [World.size_alloc] at hz_x1); (try simp only [World.size_setCell] at hz_x1); (try simp only [World.size_alloc] at hz_x1); have k0_x1 : w.heap.size < x1.w.heap.size := (by omega); have j0_x1 : w.heap.size < x1.w.heap.size + 1 := (by omega); have k1_x1 : w.heap.size + 1 < x1.w.heap.size := (by omega); have j1_x1 : w.heap.size + 1 < x1.w.heap.size + 1 := (by omega)
    go_wp2_with fail
    refine calls_after2 (HL.out _ (by (repeat' (first | (with_reducible exact Below.refl _ _) | (with_reducible assumption) | (with_reducible refine Below.alloc ?_ ?_ _) | (with_reducible refine Below.drew ?_) | (with_reducible refine below_drewN ?_ _) | (with_reducible refine Below.setCell ?_ ?_ _) | (with_reducible refine below_after ?_ ?_ _) | (with_reducible refine below_set ?_) | (with_reducible refine After.size_le _ ?_) | (with_reducible refine size_alloc_le ?_) | (with_reducible refine size_set_le ?_) | (with_reducible refine size_drewN_le ?_) | go_size)))) ?_
    intro x2
    clear HL
    have hz_x2 := x2.out.size; (try simp only [World.size_alloc] at hz_x2); (try simp only [World.size_setCell] at hz_x2); (try simp only [World.size_alloc] at hz_x2); have k0_x2 : w.heap.size < x2.w.heap.size := (by omega); have j0_x2 : w.heap.size < x2.w.heap.size + 1 := (by omega); have k1_x2 : w.heap.size + 1 < x2.w.heap.size := (by omega); have j1_x2 : w.heap.size + 1 < x2.w.heap.size + 1 := (by omega)
    go_wp2
    go_returns
    exact ⟨rfl, by (repeat' (first | (with_reducible exact Below.refl _ _) | (with_reducible assumption) | (with_reducible refine Below.alloc ?_ ?_ _) | (with_reducible refine Below.drew ?_) | (with_reducible refine below_drewN ?_ _) | (with_reducible refine Below.setCell ?_ ?_ _) | (with_reducible refine below_after ?_ ?_ _) | (with_reducible refine below_set ?_) | (with_reducible refine After.size_le _ ?_) | (with_reducible refine size_alloc_le ?_) | (with_reducible refine size_set_le ?_) | (with_reducible refine size_drewN_le ?_) | go_size))⟩
  · refine used_fail (by omega) ?_
    rw [e2]
    rw [c3] at HM
    clear h hG e2 c3
    subst hv
    generalize lastN ps ps.length = q at *
    generalize ps.length = m at *
    have d1 : decide (day < q) = false := decide_eq_false c1
    have d2 : ((m : Int) == 500) = false := by simp; omega
    clear c2
    go_enter Try.func55, Try.ntmps55
    go_wp2_with fail
    refine calls_after (HC.out _ (by (repeat' (first | (with_reducible exact Below.refl _ _) | (with_reducible assumption) | (with_reducible refine Below.alloc ?_ ?_ _) | (with_reducible refine Below.drew ?_) | (with_reducible refine below_drewN ?_ _) | (with_reducible refine Below.setCell ?_ ?_ _) | (with_reducible refine below_after ?_ ?_ _) | (with_reducible refine below_set ?_) | (with_reducible refine After.size_le _ ?_) | (with_reducible refine size_alloc_le ?_) | (with_reducible refine size_set_le ?_) | (with_reducible refine size_drewN_le ?_) | go_size)))) ?_
    intro x1
    clear HC
    have hz_x1 := x1.out.size; (try simp only [World.size_alloc] at hz_x1); (try simp only [World.size_setCell] at hz_x1); (try simp only [World.size_alloc] at hz_x1); have k0_x1 : w.heap.size < x1.w.heap.size := (by omega); have j0_x1 : w.heap.size < x1.w.heap.size + 1 := (by omega); have k1_x1 : w.heap.size + 1 < x1.w.heap.size := (by omega); have j1_x1 : w.heap.size + 1 < x1.w.heap.size + 1 := (by omega)
    go_wp2_with fail
    refine calls_after2 (HL.out _ (by (repeat' (first | (with_reducible exact Below.refl _ _) | (with_reducible assumption) | (with_reducible refine Below.alloc ?_ ?_ _) | (with_reducible refine Below.drew ?_) | (with_reducible refine below_drewN ?_ _) | (with_reducible refine Below.setCell ?_ ?_ _) | (with_reducible refine below_after ?_ ?_ _) | (with_reducible refine below_set ?_) | (with_reducible refine After.size_le _ ?_) | (with_reducible refine size_alloc_le ?_) | (with_reducible refine size_set_le ?_) | (with_reducible refine size_drewN_le ?_) | go_size)))) ?_
    intro x2
    clear HL
    have hz_x2 := x2.out.size; (try simp only [World.size_alloc] at hz_x2); (try simp only [World.size_setCell] at hz_x2); (try simp only [World.size_alloc] at hz_x2); have k0_x2 : w.heap.size < x2.w.heap.size := (by omega); have j0_x2 : w.heap.size < x2.w.heap.size + 1 := (by omega); have k1_x2 : w.heap.size + 1 < x2.w.heap.size := (by omega); have j1_x2 : w.heap.size + 1 < x2.w.heap.size + 1 := (by omega)
    go_wp2_with fail
    refine calls_after2 (HM.out _ (by (repeat' (first | (with_reducible exact Below.refl _ _) | (with_reducible assumption) | (with_reducible refine Below.alloc ?_ ?_ _) | (with_reducible refine Below.drew ?_) | (with_reducible refine below_drewN ?_ _) | (with_reducible refine Below.setCell ?_ ?_ _) | (with_reducible refine below_after ?_ ?_ _) | (with_reducible refine below_set ?_) | (with_reducible refine After.size_le _ ?_) | (with_reducible refine size_alloc_le ?_) | (with_reducible refine size_set_le ?_) | (with_reducible refine size_drewN_le ?_) | go_size)))) ?_
    intro x3
    go_wp2
    go_returns
    exact ⟨rfl, by (repeat' (first | (with_reducible exact Below.refl _ _) | (with_reducible assumption) | (with_reducible refine Below.alloc ?_ ?_ _) | (with_reducible refine Below.drew ?_) | (with_reducible refine below_drewN ?_ _) | (with_reducible refine Below.setCell ?_ ?_ _) | (with_reducible refine below_after ?_ ?_ _) | (with_reducible refine below_set ?_) | (with_reducible refine After.size_le _ ?_) | (with_reducible refine size_alloc_le ?_) | (with_reducible refine size_set_le ?_) | (with_reducible refine size_drewN_le ?_) | go_size))⟩
  · have hU : uL s d l ps day n = ps ++ [(day, n)] := by unfold uL; rw [if_pos e2]
    unfold UsedAns
    rw [e2, hU]
    rw [c3] at HM
    have h5 : ps.length < 500 := by have := hG.2.1; omega
    have HK : Hid (∀ W, Below w.heap.size w W → _) := fun W hW => concat_two ps day n v W (prc_on h hW) h5
    clear h hG e2 c3 hU
    subst hv
    generalize ps ++ [(day, n)] = ps2 at *
    generalize lastN ps ps.length = q at *
    generalize ps.length = m at *
    have d1 : decide (day < q) = false := decide_eq_false c1
    have d2 : ((m : Int) == 500) = false := by simp; omega
    clear c2
    go_enter Try.func55, Try.ntmps55
    go_wp2_with fail
    refine calls_after (HC.out _ (by (repeat' (first | (with_reducible exact Below.refl _ _) | (with_reducible assumption) | (with_reducible refine Below.alloc ?_ ?_ _) | (with_reducible refine Below.drew ?_) | (with_reducible refine below_drewN ?_ _) | (with_reducible refine Below.setCell ?_ ?_ _) | (with_reducible refine below_after ?_ ?_ _) | (with_reducible refine below_set ?_) | (with_reducible refine After.size_le _ ?_) | (with_reducible refine size_alloc_le ?_) | (with_reducible refine size_set_le ?_) | (with_reducible refine size_drewN_le ?_) | go_size)))) ?_
    intro x1
    clear HC
    have hz_x1 := x1.out.size; (try simp only [World.size_alloc] at hz_x1); (try simp only [World.size_setCell] at hz_x1); (try simp only [World.size_alloc] at hz_x1); have k0_x1 : w.heap.size < x1.w.heap.size := (by omega); have j0_x1 : w.heap.size < x1.w.heap.size + 1 := (by omega); have k1_x1 : w.heap.size + 1 < x1.w.heap.size := (by omega); have j1_x1 : w.heap.size + 1 < x1.w.heap.size + 1 := (by omega)
    go_wp2_with fail
    refine calls_after2 (HL.out _ (by (repeat' (first | (with_reducible exact Below.refl _ _) | (with_reducible assumption) | (with_reducible refine Below.alloc ?_ ?_ _) | (with_reducible refine Below.drew ?_) | (with_reducible refine below_drewN ?_ _) | (with_reducible refine Below.setCell ?_ ?_ _) | (with_reducible refine below_after ?_ ?_ _) | (with_reducible refine below_set ?_) | (with_reducible refine After.size_le _ ?_) | (with_reducible refine size_alloc_le ?_) | (with_reducible refine size_set_le ?_) | (with_reducible refine size_drewN_le ?_) | go_size)))) ?_
    intro x2
    clear HL
    have hz_x2 := x2.out.size; (try simp only [World.size_alloc] at hz_x2); (try simp only [World.size_setCell] at hz_x2); (try simp only [World.size_alloc] at hz_x2); have k0_x2 : w.heap.size < x2.w.heap.size := (by omega); have j0_x2 : w.heap.size < x2.w.heap.size + 1 := (by omega); have k1_x2 : w.heap.size + 1 < x2.w.heap.size := (by omega); have j1_x2 : w.heap.size + 1 < x2.w.heap.size + 1 := (by omega)
    go_wp2_with fail
    refine calls_after2 (HM.out _ (by (repeat' (first | (with_reducible exact Below.refl _ _) | (with_reducible assumption) | (with_reducible refine Below.alloc ?_ ?_ _) | (with_reducible refine Below.drew ?_) | (with_reducible refine below_drewN ?_ _) | (with_reducible refine Below.setCell ?_ ?_ _) | (with_reducible refine below_after ?_ ?_ _) | (with_reducible refine below_set ?_) | (with_reducible refine After.size_le _ ?_) | (with_reducible refine size_alloc_le ?_) | (with_reducible refine size_set_le ?_) | (with_reducible refine size_drewN_le ?_) | go_size)))) ?_
    intro x3
    clear HM
    have hx3 := x3.out.size
    have hB3 : Below w.heap.size w x3.w := by (repeat' (first | (with_reducible exact Below.refl _ _) | (with_reducible assumption) | (with_reducible refine Below.alloc ?_ ?_ _) | (with_reducible refine Below.drew ?_) | (with_reducible refine below_drewN ?_ _) | (with_reducible refine Below.setCell ?_ ?_ _) | (with_reducible refine below_after ?_ ?_ _) | (with_reducible refine below_set ?_) | (with_reducible refine After.size_le _ ?_) | (with_reducible refine size_alloc_le ?_) | (with_reducible refine size_set_le ?_) | (with_reducible refine size_drewN_le ?_) | go_size))
    go_wp2_with fail
    refine (HK.out x3.w hB3).mono ?_
    rintro e w1 ⟨v1, rfl, hr1, hb1⟩
    have HB := Lib.hid ((((Below.refl x3.w.heap.size x3.w).alloc (Nat.le_refl _) (.cells #[.int .i64 day, .int .i64 n] 73)).alloc (by simp) (.cells #[.slice a m cap, .slice (some ⟨x3.w.heap.size, 0, none⟩) 1 1] 57)).trans (hb1.mono (show x3.w.heap.size ≤ x3.w.heap.size + 2 by omega)))
    have HR := Lib.hid hr1
    have HB3 := Lib.hid hB3
    clear hr1 hb1 hB3
    go_wp2
    go_returns
    exact ⟨_, rfl, HR.out.mono (by have := HB3.out.size; omega), HB3.out.trans (HB.out.mono HB3.out.size)⟩
end Go.Proofs.Ytciicijindanlaa
