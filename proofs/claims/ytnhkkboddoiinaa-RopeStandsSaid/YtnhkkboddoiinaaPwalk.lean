/- Walk in the program. -/
import Derived.Test.YtnhkkboddoiinaaWalkm
import Derived.Test.YtnhkkboddoiinaaMana
import Derived.Test.YtnhkkboddoiinaaWalkc
import Derived.Laws.EntriesVeiled
namespace Go.Proofs.Ytnhkkboddoiinaa
open Go.RowKit
attribute [local go_sem] After.cell After.frozen After.lt After.le After.ne After.ne' After.set_eq After.size_set After.lt_add

theorem prc_prs {W : World} {B : Nat} {v : Value} {ps : List (Int × Int)} (h : Prc W B v ps) : Prs W B v ps := by
  rcases h with ⟨rfl, rfl⟩ | ⟨p, cap, rfl, _, rfl⟩ | ⟨b, off, cap, rfl, h0, h1, h2, hb, hc⟩
  · exact .inl ⟨_, _, rfl, rfl⟩
  · exact .inl ⟨_, _, rfl, rfl⟩
  · exact .inr ⟨b, off, cap, rfl, hb, by omega, hc⟩
/-- The closure with its boxes, in every later world. -/
theorem borne_on (s n : Int) (ps : List (Int × Int)) (v : Value) (sb lb wb : Nat) (w W : World) (hp : Prc w w.heap.size v ps) (hB : Below w.heap.size w W) (hG : GoodL s ps) (hn : Ld n)
    (c1 : W.cell? ⟨sb, 0, none⟩ = some (.int .i64 s)) (c2 : W.cell? ⟨lb, 0, none⟩ = some v) (c3 : W.cell? ⟨wb, 0, none⟩ = some (.int .i64 n)) (i : Nat) (hi : (i : Int) ≤ s) (W' : World) (hW : Below W.heap.size W W') :
    Calls Try.prog 99 #[.int .i64 i, .pointer (some ⟨sb, 0, none⟩), .pointer (some ⟨lb, 0, none⟩), .pointer (some ⟨wb, 0, none⟩)] W'
      fun e w' => e = .returned (.tuple #[.int .i64 (mF s n ps i), .int .i64 (mT n ps i)]) ∧ Below W'.heap.size W' w' :=
  withMan1_any s i n ps v sb lb wb W' (prc_on hp (hB.trans (hW.mono hB.size))) hG ⟨by omega, hi⟩ hn
    ((hW.cell (p := ⟨sb, 0, none⟩) (World.block_lt_of_cell? W _ c1)).trans c1) ((hW.cell (p := ⟨lb, 0, none⟩) (World.block_lt_of_cell? W _ c2)).trans c2) ((hW.cell (p := ⟨wb, 0, none⟩) (World.block_lt_of_cell? W _ c3)).trans c3)
theorem search_lo (s n lim : Int) (ps : List (Int × Int)) (v : Value) (sb lb wb fb mb tb : Nat) (r : Nat) (w W : World) (hp : Prc w w.heap.size v ps) (hB : Below w.heap.size w W) (hG : GoodL s ps) (hn : Ld n) (hm : Ld lim)
    (c1 : W.cell? ⟨sb, 0, none⟩ = some (.int .i64 s)) (c2 : W.cell? ⟨lb, 0, none⟩ = some v) (c3 : W.cell? ⟨wb, 0, none⟩ = some (.int .i64 n))
    (c4 : W.cell? ⟨fb, 0, none⟩ = some (.func (.func 99) #[] #[.pointer (some ⟨sb, 0, none⟩), .pointer (some ⟨lb, 0, none⟩), .pointer (some ⟨wb, 0, none⟩)]))
    (c5 : W.cell? ⟨mb, 0, none⟩ = some (.int .i64 lim)) (c6 : W.cell? ⟨tb, 0, none⟩ = some (.int .i64 s))
    (hr : r ≤ s.toNat + 1) (h0 : ∀ i, i < r → decide (mF s n ps i ≤ lim * s) = false) (h1 : ∀ i, r ≤ i → i < s.toNat + 1 → decide (mF s n ps i ≤ lim * s) = true) :
    Calls Try.prog 74 #[.int .i64 (s + 1), .func (.func 75) #[] #[.pointer (some ⟨fb, 0, none⟩), .pointer (some ⟨mb, 0, none⟩), .pointer (some ⟨tb, 0, none⟩)]] W fun e w' => e = .returned (.int .i64 r) ∧ Below W.heap.size W w' := by
  obtain ⟨s1, s2⟩ := hG.1
  obtain ⟨l1, l2⟩ := lim_bd hG.1 hm
  rw [show s + 1 = ((s.toNat + 1 : Nat) : Int) by omega]
  exact search_any 75 #[.pointer (some ⟨fb, 0, none⟩), .pointer (some ⟨mb, 0, none⟩), .pointer (some ⟨tb, 0, none⟩)] (enters_of Try.func75 (by kernel_rfl) rfl) (s.toNat + 1) r (fun i => decide (mF s n ps i ≤ lim * s)) W (by omega) hr h0 h1
    (fun i hi W' hW => walk1_any s i lim _ _ _ fb mb tb _ _ _ W' rfl l1 (by omega)
      ((hW.cell (p := ⟨fb, 0, none⟩) (World.block_lt_of_cell? W _ c4)).trans c4) ((hW.cell (p := ⟨mb, 0, none⟩) (World.block_lt_of_cell? W _ c5)).trans c5) ((hW.cell (p := ⟨tb, 0, none⟩) (World.block_lt_of_cell? W _ c6)).trans c6)
      (borne_on s n ps v sb lb wb w W hp hB hG hn c1 c2 c3 i (by omega) W' hW))
theorem search_far (s n lim : Int) (ps : List (Int × Int)) (v : Value) (sb lb wb fb mb tb : Nat) (r : Nat) (w W : World) (hp : Prc w w.heap.size v ps) (hB : Below w.heap.size w W) (hG : GoodL s ps) (hn : Ld n) (hm : Ld lim)
    (c1 : W.cell? ⟨sb, 0, none⟩ = some (.int .i64 s)) (c2 : W.cell? ⟨lb, 0, none⟩ = some v) (c3 : W.cell? ⟨wb, 0, none⟩ = some (.int .i64 n))
    (c4 : W.cell? ⟨fb, 0, none⟩ = some (.func (.func 99) #[] #[.pointer (some ⟨sb, 0, none⟩), .pointer (some ⟨lb, 0, none⟩), .pointer (some ⟨wb, 0, none⟩)]))
    (c5 : W.cell? ⟨mb, 0, none⟩ = some (.int .i64 lim)) (c6 : W.cell? ⟨tb, 0, none⟩ = some (.int .i64 s))
    (hr : r ≤ s.toNat + 1) (h0 : ∀ i, i < r → decide (lim * s < mT n ps i) = false) (h1 : ∀ i, r ≤ i → i < s.toNat + 1 → decide (lim * s < mT n ps i) = true) :
    Calls Try.prog 74 #[.int .i64 (s + 1), .func (.func 76) #[] #[.pointer (some ⟨fb, 0, none⟩), .pointer (some ⟨mb, 0, none⟩), .pointer (some ⟨tb, 0, none⟩)]] W fun e w' => e = .returned (.int .i64 r) ∧ Below W.heap.size W w' := by
  obtain ⟨s1, s2⟩ := hG.1
  obtain ⟨l1, l2⟩ := lim_bd hG.1 hm
  rw [show s + 1 = ((s.toNat + 1 : Nat) : Int) by omega]
  exact search_any 76 #[.pointer (some ⟨fb, 0, none⟩), .pointer (some ⟨mb, 0, none⟩), .pointer (some ⟨tb, 0, none⟩)] (enters_of Try.func76 (by kernel_rfl) rfl) (s.toNat + 1) r (fun i => decide (lim * s < mT n ps i)) W (by omega) hr h0 h1
    (fun i hi W' hW => walk2_any s i lim _ _ _ fb mb tb _ _ _ W' rfl l1 (by omega)
      ((hW.cell (p := ⟨fb, 0, none⟩) (World.block_lt_of_cell? W _ c4)).trans c4) ((hW.cell (p := ⟨mb, 0, none⟩) (World.block_lt_of_cell? W _ c5)).trans c5) ((hW.cell (p := ⟨tb, 0, none⟩) (World.block_lt_of_cell? W _ c6)).trans c6)
      (borne_on s n ps v sb lb wb w W hp hB hG hn c1 c2 c3 i (by omega) W' hW))

theorem withMan_any (s n : Int) (a : Option Addr) (k cap : Nat) (w : World) :
    Calls Try.prog 73 #[.int .i64 s, .slice a k cap, .int .i64 n] w fun e w' => ∃ sb lb wb : Nat, e = .returned (.func (.func 99) #[] #[.pointer (some ⟨sb, 0, none⟩), .pointer (some ⟨lb, 0, none⟩), .pointer (some ⟨wb, 0, none⟩)]) ∧
      w'.cell? ⟨sb, 0, none⟩ = some (.int .i64 s) ∧ w'.cell? ⟨lb, 0, none⟩ = some (.slice a k cap) ∧ w'.cell? ⟨wb, 0, none⟩ = some (.int .i64 n) ∧ Below w.heap.size w w' := by
  go_enter Try.func73, Try.ntmps73
  go_wp2
  go_ret
  exact ⟨_, _, _, rfl, by simp [go_sem], by simp [go_sem], by simp [go_sem], by (repeat' (first | (with_reducible exact Below.refl _ _) | (with_reducible assumption) | (with_reducible refine Below.alloc ?_ ?_ _) | (with_reducible refine Below.drew ?_) | (with_reducible refine below_drewN ?_ _) | (with_reducible refine Below.setCell ?_ ?_ _) | (with_reducible refine below_after ?_ ?_ _) | (with_reducible refine below_set ?_) | (with_reducible refine After.size_le _ ?_) | (with_reducible refine size_alloc_le ?_) | (with_reducible refine size_set_le ?_) | (with_reducible refine size_drewN_le ?_) | go_size))⟩
theorem after_ofP {x w1 : World} (h : Below x.heap.size x w1) : ∃ y : After x, w1 = y.w := ⟨⟨w1, h⟩, rfl⟩

set_option maxRecDepth 100000 in
set_option maxHeartbeats 1000000 in
theorem walk_any (s n lim : Int) (v : Value) (ps : List (Int × Int)) (w : World) (h : Prc w w.heap.size v ps) :
    Calls Try.prog 35 #[.int .i64 s, v, .int .i64 n, .int .i64 lim] w fun e w' => e = .returned (.tuple #[.int .i64 (waL s lim n ps), .int .i64 (waH s lim n ps), .int .i64 (waE s lim n ps)]) ∧ Below w.heap.size w w' := by
  obtain ⟨a, cap, hv⟩ := prc_slice h
  by_cases hG : GoodL s ps
  · have HV : Hid (∀ W, Below w.heap.size w W → _) := fun W hW => validLoads_b s v ps W true (by simp [hG]) (prs_on (prc_prs h) hW)
    by_cases hn : Ld n
    · by_cases hm : Ld lim
      · obtain ⟨s1, s2⟩ := hG.1
        obtain ⟨r1, r2, g1, g2, f1, f2, f3, f4, hin, hout⟩ := walk_turns hG ⟨hn, hm⟩
        have HS1 : Hid (∀ sb lb wb fb mb tb W, Below w.heap.size w W → _ → _ → _ → _ → _ → _ → _) := fun sb lb wb fb mb tb W hB c1 c2 c3 c4 c5 c6 => search_lo s n lim ps v sb lb wb fb mb tb r1 w W h hB hG hn hm c1 c2 c3 c4 c5 c6 g1 f1 f2
        have HS2 : Hid (∀ sb lb wb fb mb tb W, Below w.heap.size w W → _ → _ → _ → _ → _ → _ → _) := fun sb lb wb fb mb tb W hB c1 c2 c3 c4 c5 c6 => search_far s n lim ps v sb lb wb fb mb tb r2 w W h hB hG hn hm c1 c2 c3 c4 c5 c6 g2 f3 f4
        clear f1 f2 f3 f4
        have hcase : (r1 < r2 ∧ waL s lim n ps = r1 ∧ waH s lim n ps = r2 - 1 ∧ waE s lim n ps = 0) ∨ (r2 ≤ r1 ∧ waL s lim n ps = 0 ∧ waH s lim n ps = 0 ∧ waE s lim n ps = 8) := by
          by_cases hx : wkA s lim n ps ≤ wkB s lim n ps
          · obtain ⟨h1, h2, h3⟩ := hin hx
            obtain ⟨h4, h5, h6⟩ := wa_ok hG ⟨hn, hm⟩ hx
            exact .inl ⟨h1, by rw [h5, h2], by rw [h6, h3], h4⟩
          · obtain ⟨h4, h5, h6⟩ := wa_none hG ⟨hn, hm⟩ hx
            exact .inr ⟨hout hx, h5, h6, h4⟩
        clear hin hout h
        rcases hcase with ⟨hc, e1, e2, e3⟩ | ⟨hc, e1, e2, e3⟩
        · rw [e1, e2, e3]
          clear e1 e2 e3 hG
          subst hv
          generalize ps.length = k at *
          go_enter Try.func35, Try.ntmps35
          go_wp2_with fail
          refine calls_after (HV.out _ (by (repeat' (first | (with_reducible exact Below.refl _ _) | (with_reducible assumption) | (with_reducible refine Below.alloc ?_ ?_ _) | (with_reducible refine Below.drew ?_) | (with_reducible refine below_drewN ?_ _) | (with_reducible refine Below.setCell ?_ ?_ _) | (with_reducible refine below_after ?_ ?_ _) | (with_reducible refine below_set ?_) | (with_reducible refine After.size_le _ ?_) | (with_reducible refine size_alloc_le ?_) | (with_reducible refine size_set_le ?_) | (with_reducible refine size_drewN_le ?_) | go_size)))) ?_
          intro x1
          have hz_x1 := x1.out.size; (try simp only [World.size_alloc] at hz_x1); (try simp only [World.size_setCell] at hz_x1); (try simp only [World.size_alloc] at hz_x1); have k0_x1 : w.heap.size < x1.w.heap.size := (by omega); have j0_x1 : w.heap.size < x1.w.heap.size + 1 := (by omega); have k1_x1 : w.heap.size + 1 < x1.w.heap.size := (by omega); have j1_x1 : w.heap.size + 1 < x1.w.heap.size + 1 := (by omega)
          go_wp2_with (go_at_call 64; first | (refine (validLoad_t n _ hn).mono ?_; rintro e w1 ⟨rfl, rfl⟩) | (refine (validLoad_t lim _ hm).mono ?_; rintro e w1 ⟨rfl, rfl⟩))
          refine (withMan_any _ _ _ _ _ _).mono ?_
          rintro e w1 ⟨sb, lb, wb, rfl, c1, c2, c3, hb⟩
          obtain ⟨z, rfl⟩ := after_ofP (x1.out.trans (hb.mono x1.out.size))
          clear hb
          have hz_z := z.out.size; (try simp only [World.size_alloc] at hz_z); (try simp only [World.size_setCell] at hz_z); (try simp only [World.size_alloc] at hz_z); have k0_z : w.heap.size < z.w.heap.size := (by omega); have j0_z : w.heap.size < z.w.heap.size + 1 := (by omega); have k1_z : w.heap.size + 1 < z.w.heap.size := (by omega); have j1_z : w.heap.size + 1 < z.w.heap.size + 1 := (by omega)
          have y1 := World.block_lt_of_cell? z.w _ c1
          have y2 := World.block_lt_of_cell? z.w _ c2
          have y3 := World.block_lt_of_cell? z.w _ c3
          go_wp2_with fail
          refine calls_after (HS1.out sb lb wb _ _ _ _ ?b ?c1 ?c2 ?c3 ?c4 ?c5 ?c6) ?_
          case b => (repeat' (first | (with_reducible exact Below.refl _ _) | (with_reducible assumption) | (with_reducible refine Below.alloc ?_ ?_ _) | (with_reducible refine Below.drew ?_) | (with_reducible refine below_drewN ?_ _) | (with_reducible refine Below.setCell ?_ ?_ _) | (with_reducible refine below_after ?_ ?_ _) | (with_reducible refine below_set ?_) | (with_reducible refine After.size_le _ ?_) | (with_reducible refine size_alloc_le ?_) | (with_reducible refine size_set_le ?_) | (with_reducible refine size_drewN_le ?_) | go_size))
          case c1 => exact keep_alloc c1
          case c2 => exact keep_alloc c2
          case c3 => exact keep_alloc c3
          case c4 | c5 | c6 => simp [go_sem, *]
          intro x2
          have hz2 := x2.out.size
          rw [World.size_alloc] at hz2
          have n1 : w.heap.size < x2.w.heap.size := by omega
          have n2 : w.heap.size + 1 < x2.w.heap.size := by omega
          have n3 : z.w.heap.size < x2.w.heap.size := by omega
          have n4 : sb < x2.w.heap.size := by omega
          have n5 : lb < x2.w.heap.size := by omega
          have n6 : wb < x2.w.heap.size := by omega
          have c1' := (x2.cell (p := ⟨sb, 0, none⟩) (by simp; omega)).trans (keep_alloc c1)
          have c2' := (x2.cell (p := ⟨lb, 0, none⟩) (by simp; omega)).trans (keep_alloc c2)
          have c3' := (x2.cell (p := ⟨wb, 0, none⟩) (by simp; omega)).trans (keep_alloc c3)
          go_wp2_with fail
          refine calls_after2 (HS2.out sb lb wb _ _ _ _ ?b ?c1 ?c2 ?c3 ?c4 ?c5 ?c6) ?_
          case b => (repeat' (first | (with_reducible exact Below.refl _ _) | (with_reducible assumption) | (with_reducible refine Below.alloc ?_ ?_ _) | (with_reducible refine Below.drew ?_) | (with_reducible refine below_drewN ?_ _) | (with_reducible refine Below.setCell ?_ ?_ _) | (with_reducible refine below_after ?_ ?_ _) | (with_reducible refine below_set ?_) | (with_reducible refine After.size_le _ ?_) | (with_reducible refine size_alloc_le ?_) | (with_reducible refine size_set_le ?_) | (with_reducible refine size_drewN_le ?_) | go_size))
          case c1 => exact c1'
          case c2 => exact c2'
          case c3 => exact c3'
          case c4 | c5 | c6 => simp [go_sem, *]
          intro x3
          go_wp2
          go_returns
          exact ⟨rfl, by (repeat' (first | (with_reducible exact Below.refl _ _) | (with_reducible assumption) | (with_reducible refine Below.alloc ?_ ?_ _) | (with_reducible refine Below.drew ?_) | (with_reducible refine below_drewN ?_ _) | (with_reducible refine Below.setCell ?_ ?_ _) | (with_reducible refine below_after ?_ ?_ _) | (with_reducible refine below_set ?_) | (with_reducible refine After.size_le _ ?_) | (with_reducible refine size_alloc_le ?_) | (with_reducible refine size_set_le ?_) | (with_reducible refine size_drewN_le ?_) | go_size))⟩
        · rw [e1, e2, e3]
          clear e1 e2 e3 hG
          subst hv
          generalize ps.length = k at *
          go_enter Try.func35, Try.ntmps35
          go_wp2_with fail
          refine calls_after (HV.out _ (by (repeat' (first | (with_reducible exact Below.refl _ _) | (with_reducible assumption) | (with_reducible refine Below.alloc ?_ ?_ _) | (with_reducible refine Below.drew ?_) | (with_reducible refine below_drewN ?_ _) | (with_reducible refine Below.setCell ?_ ?_ _) | (with_reducible refine below_after ?_ ?_ _) | (with_reducible refine below_set ?_) | (with_reducible refine After.size_le _ ?_) | (with_reducible refine size_alloc_le ?_) | (with_reducible refine size_set_le ?_) | (with_reducible refine size_drewN_le ?_) | go_size)))) ?_
          intro x1
          have hz_x1 := x1.out.size; (try simp only [World.size_alloc] at hz_x1); (try simp only [World.size_setCell] at hz_x1); (try simp only [World.size_alloc] at hz_x1); have k0_x1 : w.heap.size < x1.w.heap.size := (by omega); have j0_x1 : w.heap.size < x1.w.heap.size + 1 := (by omega); have k1_x1 : w.heap.size + 1 < x1.w.heap.size := (by omega); have j1_x1 : w.heap.size + 1 < x1.w.heap.size + 1 := (by omega)
          go_wp2_with (go_at_call 64; first | (refine (validLoad_t n _ hn).mono ?_; rintro e w1 ⟨rfl, rfl⟩) | (refine (validLoad_t lim _ hm).mono ?_; rintro e w1 ⟨rfl, rfl⟩))
          refine (withMan_any _ _ _ _ _ _).mono ?_
          rintro e w1 ⟨sb, lb, wb, rfl, c1, c2, c3, hb⟩
          obtain ⟨z, rfl⟩ := after_ofP (x1.out.trans (hb.mono x1.out.size))
          clear hb
          have hz_z := z.out.size; (try simp only [World.size_alloc] at hz_z); (try simp only [World.size_setCell] at hz_z); (try simp only [World.size_alloc] at hz_z); have k0_z : w.heap.size < z.w.heap.size := (by omega); have j0_z : w.heap.size < z.w.heap.size + 1 := (by omega); have k1_z : w.heap.size + 1 < z.w.heap.size := (by omega); have j1_z : w.heap.size + 1 < z.w.heap.size + 1 := (by omega)
          have y1 := World.block_lt_of_cell? z.w _ c1
          have y2 := World.block_lt_of_cell? z.w _ c2
          have y3 := World.block_lt_of_cell? z.w _ c3
          go_wp2_with fail
          refine calls_after (HS1.out sb lb wb _ _ _ _ ?b ?c1 ?c2 ?c3 ?c4 ?c5 ?c6) ?_
          case b => (repeat' (first | (with_reducible exact Below.refl _ _) | (with_reducible assumption) | (with_reducible refine Below.alloc ?_ ?_ _) | (with_reducible refine Below.drew ?_) | (with_reducible refine below_drewN ?_ _) | (with_reducible refine Below.setCell ?_ ?_ _) | (with_reducible refine below_after ?_ ?_ _) | (with_reducible refine below_set ?_) | (with_reducible refine After.size_le _ ?_) | (with_reducible refine size_alloc_le ?_) | (with_reducible refine size_set_le ?_) | (with_reducible refine size_drewN_le ?_) | go_size))
          case c1 => exact keep_alloc c1
          case c2 => exact keep_alloc c2
          case c3 => exact keep_alloc c3
          case c4 | c5 | c6 => simp [go_sem, *]
          intro x2
          have hz2 := x2.out.size
          rw [World.size_alloc] at hz2
          have n1 : w.heap.size < x2.w.heap.size := by omega
          have n2 : w.heap.size + 1 < x2.w.heap.size := by omega
          have n3 : z.w.heap.size < x2.w.heap.size := by omega
          have n4 : sb < x2.w.heap.size := by omega
          have n5 : lb < x2.w.heap.size := by omega
          have n6 : wb < x2.w.heap.size := by omega
          have c1' := (x2.cell (p := ⟨sb, 0, none⟩) (by simp; omega)).trans (keep_alloc c1)
          have c2' := (x2.cell (p := ⟨lb, 0, none⟩) (by simp; omega)).trans (keep_alloc c2)
          have c3' := (x2.cell (p := ⟨wb, 0, none⟩) (by simp; omega)).trans (keep_alloc c3)
          go_wp2_with fail
          refine calls_after2 (HS2.out sb lb wb _ _ _ _ ?b ?c1 ?c2 ?c3 ?c4 ?c5 ?c6) ?_
          case b => (repeat' (first | (with_reducible exact Below.refl _ _) | (with_reducible assumption) | (with_reducible refine Below.alloc ?_ ?_ _) | (with_reducible refine Below.drew ?_) | (with_reducible refine below_drewN ?_ _) | (with_reducible refine Below.setCell ?_ ?_ _) | (with_reducible refine below_after ?_ ?_ _) | (with_reducible refine below_set ?_) | (with_reducible refine After.size_le _ ?_) | (with_reducible refine size_alloc_le ?_) | (with_reducible refine size_set_le ?_) | (with_reducible refine size_drewN_le ?_) | go_size))
          case c1 => exact c1'
          case c2 => exact c2'
          case c3 => exact c3'
          case c4 | c5 | c6 => simp [go_sem, *]
          intro x3
          go_wp2
          go_returns
          exact ⟨rfl, by (repeat' (first | (with_reducible exact Below.refl _ _) | (with_reducible assumption) | (with_reducible refine Below.alloc ?_ ?_ _) | (with_reducible refine Below.drew ?_) | (with_reducible refine below_drewN ?_ _) | (with_reducible refine Below.setCell ?_ ?_ _) | (with_reducible refine below_after ?_ ?_ _) | (with_reducible refine below_set ?_) | (with_reducible refine After.size_le _ ?_) | (with_reducible refine size_alloc_le ?_) | (with_reducible refine size_set_le ?_) | (with_reducible refine size_drewN_le ?_) | go_size))⟩
      · obtain ⟨e1, e2, e3⟩ := wa_range hG (fun h => hm h.2 : ¬ (Ld n ∧ Ld lim))
        rw [e1, e2, e3]
        clear h hG e1 e2 e3
        subst hv
        generalize ps.length = k at *
        go_enter Try.func35, Try.ntmps35
        go_wp2_with fail
        refine calls_after (HV.out _ (by (repeat' (first | (with_reducible exact Below.refl _ _) | (with_reducible assumption) | (with_reducible refine Below.alloc ?_ ?_ _) | (with_reducible refine Below.drew ?_) | (with_reducible refine below_drewN ?_ _) | (with_reducible refine Below.setCell ?_ ?_ _) | (with_reducible refine below_after ?_ ?_ _) | (with_reducible refine below_set ?_) | (with_reducible refine After.size_le _ ?_) | (with_reducible refine size_alloc_le ?_) | (with_reducible refine size_set_le ?_) | (with_reducible refine size_drewN_le ?_) | go_size)))) ?_
        intro x1
        have hz_x1 := x1.out.size; (try simp only [World.size_alloc] at hz_x1); (try simp only [World.size_setCell] at hz_x1); (try simp only [World.size_alloc] at hz_x1); have k0_x1 : w.heap.size < x1.w.heap.size := (by omega); have j0_x1 : w.heap.size < x1.w.heap.size + 1 := (by omega); have k1_x1 : w.heap.size + 1 < x1.w.heap.size := (by omega); have j1_x1 : w.heap.size + 1 < x1.w.heap.size + 1 := (by omega)
        go_wp2_with (go_at_call 64; first | (refine (validLoad_t n _ hn).mono ?_; rintro e w1 ⟨rfl, rfl⟩) | (refine (validLoad_f lim _ hm).mono ?_; rintro e w1 ⟨rfl, rfl⟩))
        go_returns
        exact ⟨rfl, by (repeat' (first | (with_reducible exact Below.refl _ _) | (with_reducible assumption) | (with_reducible refine Below.alloc ?_ ?_ _) | (with_reducible refine Below.drew ?_) | (with_reducible refine below_drewN ?_ _) | (with_reducible refine Below.setCell ?_ ?_ _) | (with_reducible refine below_after ?_ ?_ _) | (with_reducible refine below_set ?_) | (with_reducible refine After.size_le _ ?_) | (with_reducible refine size_alloc_le ?_) | (with_reducible refine size_set_le ?_) | (with_reducible refine size_drewN_le ?_) | go_size))⟩
    · obtain ⟨e1, e2, e3⟩ := wa_range hG (fun h => hn h.1 : ¬ (Ld n ∧ Ld lim))
      rw [e1, e2, e3]
      clear h hG e1 e2 e3
      subst hv
      generalize ps.length = k at *
      go_enter Try.func35, Try.ntmps35
      go_wp2_with fail
      refine calls_after (HV.out _ (by (repeat' (first | (with_reducible exact Below.refl _ _) | (with_reducible assumption) | (with_reducible refine Below.alloc ?_ ?_ _) | (with_reducible refine Below.drew ?_) | (with_reducible refine below_drewN ?_ _) | (with_reducible refine Below.setCell ?_ ?_ _) | (with_reducible refine below_after ?_ ?_ _) | (with_reducible refine below_set ?_) | (with_reducible refine After.size_le _ ?_) | (with_reducible refine size_alloc_le ?_) | (with_reducible refine size_set_le ?_) | (with_reducible refine size_drewN_le ?_) | go_size)))) ?_
      intro x1
      have hz_x1 := x1.out.size; (try simp only [World.size_alloc] at hz_x1); (try simp only [World.size_setCell] at hz_x1); (try simp only [World.size_alloc] at hz_x1); have k0_x1 : w.heap.size < x1.w.heap.size := (by omega); have j0_x1 : w.heap.size < x1.w.heap.size + 1 := (by omega); have k1_x1 : w.heap.size + 1 < x1.w.heap.size := (by omega); have j1_x1 : w.heap.size + 1 < x1.w.heap.size + 1 := (by omega)
      go_wp2_with (go_at_call 64; refine (validLoad_f n _ hn).mono ?_; rintro e w1 ⟨rfl, rfl⟩)
      go_returns
      exact ⟨rfl, by (repeat' (first | (with_reducible exact Below.refl _ _) | (with_reducible assumption) | (with_reducible refine Below.alloc ?_ ?_ _) | (with_reducible refine Below.drew ?_) | (with_reducible refine below_drewN ?_ _) | (with_reducible refine Below.setCell ?_ ?_ _) | (with_reducible refine below_after ?_ ?_ _) | (with_reducible refine below_set ?_) | (with_reducible refine After.size_le _ ?_) | (with_reducible refine size_alloc_le ?_) | (with_reducible refine size_set_le ?_) | (with_reducible refine size_drewN_le ?_) | go_size))⟩
  · obtain ⟨e1, e2, e3⟩ := wa_bad (s := s) (lim := lim) (n := n) hG
    rw [e1, e2, e3]
    have HV : Hid (∀ W, Below w.heap.size w W → _) := fun W hW => validLoads_b s v ps W false (by simp [hG]) (prs_on (prc_prs h) hW)
    clear h hG e1 e2 e3
    subst hv
    generalize ps.length = k at *
    go_enter Try.func35, Try.ntmps35
    go_wp2_with fail
    refine calls_after (HV.out _ (by (repeat' (first | (with_reducible exact Below.refl _ _) | (with_reducible assumption) | (with_reducible refine Below.alloc ?_ ?_ _) | (with_reducible refine Below.drew ?_) | (with_reducible refine below_drewN ?_ _) | (with_reducible refine Below.setCell ?_ ?_ _) | (with_reducible refine below_after ?_ ?_ _) | (with_reducible refine below_set ?_) | (with_reducible refine After.size_le _ ?_) | (with_reducible refine size_alloc_le ?_) | (with_reducible refine size_set_le ?_) | (with_reducible refine size_drewN_le ?_) | go_size)))) ?_
    intro x1
    go_wp2
    go_returns
    exact ⟨rfl, by (repeat' (first | (with_reducible exact Below.refl _ _) | (with_reducible assumption) | (with_reducible refine Below.alloc ?_ ?_ _) | (with_reducible refine Below.drew ?_) | (with_reducible refine below_drewN ?_ _) | (with_reducible refine Below.setCell ?_ ?_ _) | (with_reducible refine below_after ?_ ?_ _) | (with_reducible refine below_set ?_) | (with_reducible refine After.size_le _ ?_) | (with_reducible refine size_alloc_le ?_) | (with_reducible refine size_set_le ?_) | (with_reducible refine size_drewN_le ?_) | go_size))⟩
end Go.Proofs.Ytnhkkboddoiinaa
