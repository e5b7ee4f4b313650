/- Level in the program and in the reference. -/
import Derived.Test.YtnhkkboddoiinaaPwalk
import Derived.Test.YtnhkkboddoiinaaLevelc
namespace Go.Proofs.Ytnhkkboddoiinaa
open Go.RowKit
attribute [local go_sem] After.cell After.frozen After.lt After.le After.ne After.ne' After.set_eq After.size_set After.lt_add

theorem level1_on (s n : Int) (ps : List (Int × Int)) (v : Value) (sb lb wb fb : Nat) (w W : World) (hp : Prc w w.heap.size v ps) (hB : Below w.heap.size w W) (hG : GoodL s ps) (hn : Ld n)
    (c1 : W.cell? ⟨sb, 0, none⟩ = some (.int .i64 s)) (c2 : W.cell? ⟨lb, 0, none⟩ = some v) (c3 : W.cell? ⟨wb, 0, none⟩ = some (.int .i64 n))
    (c4 : W.cell? ⟨fb, 0, none⟩ = some (.func (.func 99) #[] #[.pointer (some ⟨sb, 0, none⟩), .pointer (some ⟨lb, 0, none⟩), .pointer (some ⟨wb, 0, none⟩)]))
    (i : Nat) (hi : (i : Int) ≤ s) (W' : World) (hW : Below W.heap.size W W') :
    Calls Try.prog 77 #[.int .i64 i, .pointer (some ⟨fb, 0, none⟩)] W' fun e w' => e = .returned (.int .i64 (dA s n ps i)) ∧ Below W'.heap.size W' w' := by
  obtain ⟨b1, b2, b3, b4⟩ := man_bd (x := i) hG hn (by omega) hi
  have := level1_any i (mF s n ps i) (mT n ps i) fb _ _ _ W' b1 (by omega) b3 (by omega) ((hW.cell (p := ⟨fb, 0, none⟩) (World.block_lt_of_cell? W _ c4)).trans c4) (borne_on s n ps v sb lb wb w W hp hB hG hn c1 c2 c3 i hi W' hW)
  rw [dif_eq] at this
  exact this
theorem search_level (s n : Int) (ps : List (Int × Int)) (v : Value) (sb lb wb fb db : Nat) (r : Nat) (w W : World) (hp : Prc w w.heap.size v ps) (hB : Below w.heap.size w W) (hG : GoodL s ps) (hn : Ld n)
    (c1 : W.cell? ⟨sb, 0, none⟩ = some (.int .i64 s)) (c2 : W.cell? ⟨lb, 0, none⟩ = some v) (c3 : W.cell? ⟨wb, 0, none⟩ = some (.int .i64 n))
    (c4 : W.cell? ⟨fb, 0, none⟩ = some (.func (.func 99) #[] #[.pointer (some ⟨sb, 0, none⟩), .pointer (some ⟨lb, 0, none⟩), .pointer (some ⟨wb, 0, none⟩)]))
    (c5 : W.cell? ⟨db, 0, none⟩ = some (.func (.func 77) #[] #[.pointer (some ⟨fb, 0, none⟩)]))
    (hr : r ≤ s.toNat) (h0 : ∀ i, i < r → decide (dA s n ps i ≤ dA s n ps (i + 1)) = false) (h1 : ∀ i, r ≤ i → i < s.toNat → decide (dA s n ps i ≤ dA s n ps (i + 1)) = true) :
    Calls Try.prog 74 #[.int .i64 s, .func (.func 78) #[] #[.pointer (some ⟨db, 0, none⟩)]] W fun e w' => e = .returned (.int .i64 r) ∧ Below W.heap.size W w' := by
  obtain ⟨s1, s2⟩ := hG.1
  have := search_any 78 #[.pointer (some ⟨db, 0, none⟩)] (enters_of Try.func78 (by kernel_rfl) rfl) s.toNat r (fun i => decide (dA s n ps i ≤ dA s n ps (i + 1))) W (by omega) hr h0 h1
    (fun i hi W' hW => level2_any i (dA s n ps i) (dA s n ps (i + 1)) _ db _ W' rfl (by omega) (by omega)
      ((hW.cell (p := ⟨db, 0, none⟩) (World.block_lt_of_cell? W _ c5)).trans c5)
      (fun W2 hW2 => level1_on s n ps v sb lb wb fb w W hp hB hG hn c1 c2 c3 c4 i (by omega) W2 (hW.trans (hW2.mono hW.size)))
      (fun W2 hW2 => by
        have := level1_on s n ps v sb lb wb fb w W hp hB hG hn c1 c2 c3 c4 (i + 1) (by omega) W2 (hW.trans (hW2.mono hW.size))
        rw [show (((i + 1 : Nat)) : Int) = (i : Int) + 1 by omega] at this
        exact this))
  rw [show ((s.toNat : Nat) : Int) = s by omega] at this
  exact this

theorem ld_of {n : Int} (h : Btw n 1 1000000) : Ld n := by obtain ⟨h1, h2⟩ := h; exact ⟨by omega, h2⟩

set_option maxRecDepth 100000 in
set_option maxHeartbeats 1000000 in
theorem level_any (s n : Int) (v : Value) (ps : List (Int × Int)) (w : World) (h : Prc w w.heap.size v ps) :
    Calls Try.prog 37 #[.int .i64 s, v, .int .i64 n] w fun e w' => e = .returned (.tuple #[.int .i64 (leV s n ps), .int .i64 (leE s n ps)]) ∧ Below w.heap.size w w' := by
  obtain ⟨a, cap, hv⟩ := prc_slice h
  by_cases hG : GoodL s ps
  · have HV : Hid (∀ W, Below w.heap.size w W → _) := fun W hW => validLoads_b s v ps W true (by simp [hG]) (prs_on (prc_prs h) hW)
    by_cases hn : Btw n 1 1000000
    · obtain ⟨e1, e2⟩ := le_ok hG hn
      obtain ⟨s1, s2⟩ := hG.1
      have hm := ld_of hn
      obtain ⟨r, g1, f1, f2, hr⟩ := level_turn (s := s) (ps := ps) hn.1 (by omega)
      rw [e1, e2, hr]
      have HS : Hid (∀ sb lb wb fb db W, Below w.heap.size w W → _ → _ → _ → _ → _ → _) := fun sb lb wb fb db W hB c1 c2 c3 c4 c5 => search_level s n ps v sb lb wb fb db r w W h hB hG hm c1 c2 c3 c4 c5 g1 f1 f2
      have d0 : (n == 0) = false := beq_eq_false_iff_ne.2 (by have := hn.1; omega)
      clear f1 f2 h hr e1 e2 hG hn
      subst hv
      generalize ps.length = k at *
      go_enter Try.func37, Try.ntmps37
      go_wp2_with fail
      refine calls_after (HV.out _ (by (repeat' (first | (with_reducible exact Below.refl _ _) | (with_reducible assumption) | (with_reducible refine Below.alloc ?_ ?_ _) | (with_reducible refine Below.drew ?_) | (with_reducible refine below_drewN ?_ _) | (with_reducible refine Below.setCell ?_ ?_ _) | (with_reducible refine below_after ?_ ?_ _) | (with_reducible refine below_set ?_) | (with_reducible refine After.size_le _ ?_) | (with_reducible refine size_alloc_le ?_) | (with_reducible refine size_set_le ?_) | (with_reducible refine size_drewN_le ?_) | go_size)))) ?_
      intro x1
      go_wp2_with (go_at_call 64; (refine (validLoad_t n _ hm).mono ?_; rintro e w1 ⟨rfl, rfl⟩))
      refine (withMan_any _ _ _ _ _ _).mono ?_
      rintro e w1 ⟨sb, lb, wb, rfl, c1, c2, c3, hb⟩
      obtain ⟨z, rfl⟩ := after_ofP (x1.out.trans (hb.mono x1.out.size))
      clear hb
      have y1 := World.block_lt_of_cell? z.w _ c1
      have y2 := World.block_lt_of_cell? z.w _ c2
      have y3 := World.block_lt_of_cell? z.w _ c3
      have hz := z.out.size
      go_wp2_with fail
      refine calls_after (HS.out sb lb wb z.w.heap.size _ _ ?b ?c1 ?c2 ?c3 ?c4 ?c5) ?_
      case b => (repeat' (first | (with_reducible exact Below.refl _ _) | (with_reducible assumption) | (with_reducible refine Below.alloc ?_ ?_ _) | (with_reducible refine Below.drew ?_) | (with_reducible refine below_drewN ?_ _) | (with_reducible refine Below.setCell ?_ ?_ _) | (with_reducible refine below_after ?_ ?_ _) | (with_reducible refine below_set ?_) | (with_reducible refine After.size_le _ ?_) | (with_reducible refine size_alloc_le ?_) | (with_reducible refine size_set_le ?_) | (with_reducible refine size_drewN_le ?_) | go_size))
      case c1 => exact keep_alloc (keep_alloc c1)
      case c2 => exact keep_alloc (keep_alloc c2)
      case c3 => exact keep_alloc (keep_alloc c3)
      case c4 | c5 => simp [go_sem, *]
      intro x2
      go_wp2
      go_returns
      exact ⟨rfl, by (repeat' (first | (with_reducible exact Below.refl _ _) | (with_reducible assumption) | (with_reducible refine Below.alloc ?_ ?_ _) | (with_reducible refine Below.drew ?_) | (with_reducible refine below_drewN ?_ _) | (with_reducible refine Below.setCell ?_ ?_ _) | (with_reducible refine below_after ?_ ?_ _) | (with_reducible refine below_set ?_) | (with_reducible refine After.size_le _ ?_) | (with_reducible refine size_alloc_le ?_) | (with_reducible refine size_set_le ?_) | (with_reducible refine size_drewN_le ?_) | go_size))⟩
    · obtain ⟨e1, e2⟩ := le_range hG hn
      rw [e1, e2]
      by_cases hm : Ld n
      · have d0 : (n == 0) = true := by
          obtain ⟨m1, m2⟩ := hm
          have : n = 0 := by
            rcases Int.lt_or_le 0 n with h1 | h1
            · exact absurd ⟨by omega, m2⟩ hn
            · omega
          simpa using this
        clear h hG e1 e2 hn
        subst hv
        generalize ps.length = k at *
        go_enter Try.func37, Try.ntmps37
        go_wp2_with fail
        refine calls_after (HV.out _ (by (repeat' (first | (with_reducible exact Below.refl _ _) | (with_reducible assumption) | (with_reducible refine Below.alloc ?_ ?_ _) | (with_reducible refine Below.drew ?_) | (with_reducible refine below_drewN ?_ _) | (with_reducible refine Below.setCell ?_ ?_ _) | (with_reducible refine below_after ?_ ?_ _) | (with_reducible refine below_set ?_) | (with_reducible refine After.size_le _ ?_) | (with_reducible refine size_alloc_le ?_) | (with_reducible refine size_set_le ?_) | (with_reducible refine size_drewN_le ?_) | go_size)))) ?_
        intro x1
        go_wp2_with (go_at_call 64; (refine (validLoad_t n _ hm).mono ?_; rintro e w1 ⟨rfl, rfl⟩))
        go_returns
        exact ⟨rfl, by (repeat' (first | (with_reducible exact Below.refl _ _) | (with_reducible assumption) | (with_reducible refine Below.alloc ?_ ?_ _) | (with_reducible refine Below.drew ?_) | (with_reducible refine below_drewN ?_ _) | (with_reducible refine Below.setCell ?_ ?_ _) | (with_reducible refine below_after ?_ ?_ _) | (with_reducible refine below_set ?_) | (with_reducible refine After.size_le _ ?_) | (with_reducible refine size_alloc_le ?_) | (with_reducible refine size_set_le ?_) | (with_reducible refine size_drewN_le ?_) | go_size))⟩
      · clear h hG e1 e2 hn
        subst hv
        generalize ps.length = k at *
        go_enter Try.func37, Try.ntmps37
        go_wp2_with fail
        refine calls_after (HV.out _ (by (repeat' (first | (with_reducible exact Below.refl _ _) | (with_reducible assumption) | (with_reducible refine Below.alloc ?_ ?_ _) | (with_reducible refine Below.drew ?_) | (with_reducible refine below_drewN ?_ _) | (with_reducible refine Below.setCell ?_ ?_ _) | (with_reducible refine below_after ?_ ?_ _) | (with_reducible refine below_set ?_) | (with_reducible refine After.size_le _ ?_) | (with_reducible refine size_alloc_le ?_) | (with_reducible refine size_set_le ?_) | (with_reducible refine size_drewN_le ?_) | go_size)))) ?_
        intro x1
        go_wp2_with (go_at_call 64; (refine (validLoad_f n _ hm).mono ?_; rintro e w1 ⟨rfl, rfl⟩))
        go_returns
        exact ⟨rfl, by (repeat' (first | (with_reducible exact Below.refl _ _) | (with_reducible assumption) | (with_reducible refine Below.alloc ?_ ?_ _) | (with_reducible refine Below.drew ?_) | (with_reducible refine below_drewN ?_ _) | (with_reducible refine Below.setCell ?_ ?_ _) | (with_reducible refine below_after ?_ ?_ _) | (with_reducible refine below_set ?_) | (with_reducible refine After.size_le _ ?_) | (with_reducible refine size_alloc_le ?_) | (with_reducible refine size_set_le ?_) | (with_reducible refine size_drewN_le ?_) | go_size))⟩
  · obtain ⟨e1, e2⟩ := le_bad (s := s) (n := n) hG
    rw [e1, e2]
    have HV : Hid (∀ W, Below w.heap.size w W → _) := fun W hW => validLoads_b s v ps W false (by simp [hG]) (prs_on (prc_prs h) hW)
    clear h hG e1 e2
    subst hv
    generalize ps.length = k at *
    go_enter Try.func37, Try.ntmps37
    go_wp2_with fail
    refine calls_after (HV.out _ (by (repeat' (first | (with_reducible exact Below.refl _ _) | (with_reducible assumption) | (with_reducible refine Below.alloc ?_ ?_ _) | (with_reducible refine Below.drew ?_) | (with_reducible refine below_drewN ?_ _) | (with_reducible refine Below.setCell ?_ ?_ _) | (with_reducible refine below_after ?_ ?_ _) | (with_reducible refine below_set ?_) | (with_reducible refine After.size_le _ ?_) | (with_reducible refine size_alloc_le ?_) | (with_reducible refine size_set_le ?_) | (with_reducible refine size_drewN_le ?_) | go_size)))) ?_
    intro x1
    go_wp2
    go_returns
    exact ⟨rfl, by (repeat' (first | (with_reducible exact Below.refl _ _) | (with_reducible assumption) | (with_reducible refine Below.alloc ?_ ?_ _) | (with_reducible refine Below.drew ?_) | (with_reducible refine below_drewN ?_ _) | (with_reducible refine Below.setCell ?_ ?_ _) | (with_reducible refine below_after ?_ ?_ _) | (with_reducible refine below_set ?_) | (with_reducible refine After.size_le _ ?_) | (with_reducible refine size_alloc_le ?_) | (with_reducible refine size_set_le ?_) | (with_reducible refine size_drewN_le ?_) | go_size))⟩
end Go.Proofs.Ytnhkkboddoiinaa
