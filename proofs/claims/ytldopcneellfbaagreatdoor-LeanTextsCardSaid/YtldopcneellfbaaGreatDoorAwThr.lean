/- The line through two points, in both programs. -/
import Derived.Test.YtldopcneellfbaaGreatDoorAwNear
namespace Go.Proofs.YtldopcneellfbaaGreatDoor.Aw
open Go.Proofs.YtldopcneellfbaaGreatDoor
open Go.RowKit
attribute [local go_sem] After.cell After.frozen After.lt After.le After.ne After.ne' After.set_eq After.size_set After.lt_add

def thrA (p q : Int × Int) : Int := p.2 * (q.1 - p.1) - p.1 * (q.2 - p.2)
def thrB (p q : Int × Int) : Int := q.2 - p.2
def thrD (p q : Int × Int) : Int := q.1 - p.1
set_option maxRecDepth 100000 in
set_option maxHeartbeats 400000 in
theorem through_bad (p q : Int × Int) (w : World) (h : ¬ (InPt p.1 p.2 ∧ InPt q.1 q.2)) :
    Calls Tryz.prog 24 #[.agg #[.int .i64 p.1, .int .i64 p.2], .agg #[.int .i64 q.1, .int .i64 q.2]] w fun e w' => e = .returned (.tuple #[.agg #[.int .i64 0, .int .i64 0, .int .i64 0], .int .i64 1]) ∧ Below w.heap.size w w' := by
  obtain ⟨ph, px⟩ := p
  obtain ⟨qh, qx⟩ := q
  dsimp only at *
  by_cases hp : InPt ph px
  · have H1 := Lib.hid hp
    have H2 := Lib.hid (show ¬ InPt qh qx from fun hq => h ⟨hp, hq⟩)
    clear hp h
    go_enter Tryz.func24, Tryz.ntmps24
    go_wp2_with (first | (go_at_call 43; (with_reducible (first | refine calls_after2 (validPoint_t _ _ _ (by first | exact H1.out | exact H2.out)) ?_ | refine calls_after (validPoint_t _ _ _ (by first | exact H1.out | exact H2.out)) ?_)); intro x1) | (go_at_call 43; (with_reducible (first | refine calls_after2 (validPoint_f _ _ _ (by first | exact H1.out | exact H2.out)) ?_ | refine calls_after (validPoint_f _ _ _ (by first | exact H1.out | exact H2.out)) ?_)); intro x1))
    go_returns
    exact ⟨rfl, by (repeat' (first | (with_reducible exact Below.refl _ _) | (with_reducible assumption) | (with_reducible refine Below.alloc ?_ ?_ _) | (with_reducible refine Below.drew ?_) | (with_reducible refine below_drewN ?_ _) | (with_reducible refine Below.setCell ?_ ?_ _) | (with_reducible refine below_after ?_ ?_ _) | (with_reducible refine below_set ?_) | (with_reducible refine After.size_le _ ?_) | (with_reducible refine size_alloc_le ?_) | (with_reducible refine size_set_le ?_) | (with_reducible refine size_drewN_le ?_) | go_size))⟩
  · have H1 := Lib.hid hp
    have H2 := Lib.hid hp
    clear hp h
    go_enter Tryz.func24, Tryz.ntmps24
    go_wp2_with (first | (go_at_call 43; (with_reducible (first | refine calls_after2 (validPoint_f _ _ _ (by first | exact H1.out | exact H2.out)) ?_ | refine calls_after (validPoint_f _ _ _ (by first | exact H1.out | exact H2.out)) ?_)); intro x1))
    go_returns
    exact ⟨rfl, by (repeat' (first | (with_reducible exact Below.refl _ _) | (with_reducible assumption) | (with_reducible refine Below.alloc ?_ ?_ _) | (with_reducible refine Below.drew ?_) | (with_reducible refine below_drewN ?_ _) | (with_reducible refine Below.setCell ?_ ?_ _) | (with_reducible refine below_after ?_ ?_ _) | (with_reducible refine below_set ?_) | (with_reducible refine After.size_le _ ?_) | (with_reducible refine size_alloc_le ?_) | (with_reducible refine size_set_le ?_) | (with_reducible refine size_drewN_le ?_) | go_size))⟩
set_option maxRecDepth 100000 in
set_option maxHeartbeats 400000 in
theorem through_same (p q : Int × Int) (w : World) (hp : InPt p.1 p.2) (hq : InPt q.1 q.2) (he : p.1 = q.1) :
    Calls Tryz.prog 24 #[.agg #[.int .i64 p.1, .int .i64 p.2], .agg #[.int .i64 q.1, .int .i64 q.2]] w fun e w' => e = .returned (.tuple #[.agg #[.int .i64 0, .int .i64 0, .int .i64 0], .int .i64 10]) ∧ Below w.heap.size w w' := by
  obtain ⟨ph, px⟩ := p
  obtain ⟨qh, qx⟩ := q
  dsimp only at *
  subst he
  have H1 := Lib.hid hp
  have H2 := Lib.hid hq
  clear hp hq
  go_enter Tryz.func24, Tryz.ntmps24
  go_wp2_with (first | (go_at_call 43; (with_reducible (first | refine calls_after2 (validPoint_t _ _ _ (by first | exact H1.out | exact H2.out)) ?_ | refine calls_after (validPoint_t _ _ _ (by first | exact H1.out | exact H2.out)) ?_)); intro x1))
  go_returns
  exact ⟨rfl, by (repeat' (first | (with_reducible exact Below.refl _ _) | (with_reducible assumption) | (with_reducible refine Below.alloc ?_ ?_ _) | (with_reducible refine Below.drew ?_) | (with_reducible refine below_drewN ?_ _) | (with_reducible refine Below.setCell ?_ ?_ _) | (with_reducible refine below_after ?_ ?_ _) | (with_reducible refine below_set ?_) | (with_reducible refine After.size_le _ ?_) | (with_reducible refine size_alloc_le ?_) | (with_reducible refine size_set_le ?_) | (with_reducible refine size_drewN_le ?_) | go_size))⟩
set_option maxRecDepth 100000 in
set_option maxHeartbeats 400000 in
theorem through_lt (p q : Int × Int) (w : World) (hp : InPt p.1 p.2) (hq : InPt q.1 q.2) (hl : p.1 < q.1) :
    Calls Tryz.prog 24 #[.agg #[.int .i64 p.1, .int .i64 p.2], .agg #[.int .i64 q.1, .int .i64 q.2]] w fun e w' => e = .returned (.tuple #[.agg #[.int .i64 (mkA (thrA p q) (thrB p q) (thrD p q)), .int .i64 (mkB (thrA p q) (thrB p q) (thrD p q)), .int .i64 (mkD (thrA p q) (thrB p q) (thrD p q))], .int .i64 (mkE (thrA p q) (thrB p q) (thrD p q))]) ∧ Below w.heap.size w w' := by
  obtain ⟨ph, px⟩ := p
  obtain ⟨qh, qx⟩ := q
  dsimp only at *
  have H1 := Lib.hid hp
  have H2 := Lib.hid hq
  have HM : Hid (∀ w, Calls Tryz.prog 23 #[.int .i64 (px * (qh - ph) - ph * (qx - px)), .int .i64 (qx - px), .int .i64 (qh - ph)] w fun e w' => e = .returned (.tuple #[.agg #[.int .i64 (mkA (thrA (ph, px) (qh, qx)) (thrB (ph, px) (qh, qx)) (thrD (ph, px) (qh, qx))), .int .i64 (mkB (thrA (ph, px) (qh, qx)) (thrB (ph, px) (qh, qx)) (thrD (ph, px) (qh, qx))), .int .i64 (mkD (thrA (ph, px) (qh, qx)) (thrB (ph, px) (qh, qx)) (thrD (ph, px) (qh, qx)))], .int .i64 (mkE (thrA (ph, px) (qh, qx)) (thrB (ph, px) (qh, qx)) (thrD (ph, px) (qh, qx)))]) ∧ Below w.heap.size w w') := fun w => by
    have := make_any (thrA (ph, px) (qh, qx)) (thrB (ph, px) (qh, qx)) (thrD (ph, px) (qh, qx)) w
    have e : thrA (ph, px) (qh, qx) = px * (qh - ph) - ph * (qx - px) := rfl
    rw [← e]; exact this
  unfold InPt at hp hq
  obtain ⟨a1, a2, a3, a4⟩ := hp
  obtain ⟨c1, c2, c3, c4⟩ := hq
  have m1 := prod_bd (a := px) (b := qh - ph) (A := 10000) (B := 200000) (by omega) (by omega) (by omega) (by omega)
  have m2 := prod_bd (a := ph) (b := qx - px) (A := 200000) (B := 20000) (by omega) (by omega) (by omega) (by omega)
  obtain ⟨m3, m4⟩ := m1
  obtain ⟨m5, m6⟩ := m2
  go_enter Tryz.func24, Tryz.ntmps24
  go_wp2_with (first | (go_at_call 43; (with_reducible (first | refine calls_after2 (validPoint_t _ _ _ (by first | exact H1.out | exact H2.out)) ?_ | refine calls_after (validPoint_t _ _ _ (by first | exact H1.out | exact H2.out)) ?_)); intro x1))
  go_quiet (fail)
  go_wp2_with (first | (go_at_call 23; (with_reducible (first | refine calls_after2 (HM.out _) ?_ | refine calls_afterD (HM.out _) ?_ | refine calls_after (HM.out _) ?_)); intro x2))
  go_returns
  exact ⟨rfl, by (repeat' (first | (with_reducible exact Below.refl _ _) | (with_reducible assumption) | (with_reducible refine Below.alloc ?_ ?_ _) | (with_reducible refine Below.drew ?_) | (with_reducible refine below_drewN ?_ _) | (with_reducible refine Below.setCell ?_ ?_ _) | (with_reducible refine below_after ?_ ?_ _) | (with_reducible refine below_set ?_) | (with_reducible refine After.size_le _ ?_) | (with_reducible refine size_alloc_le ?_) | (with_reducible refine size_set_le ?_) | (with_reducible refine size_drewN_le ?_) | go_size))⟩
set_option maxRecDepth 100000 in
set_option maxHeartbeats 400000 in
theorem through_gt (p q : Int × Int) (w : World) (hp : InPt p.1 p.2) (hq : InPt q.1 q.2) (hl : q.1 < p.1) :
    Calls Tryz.prog 24 #[.agg #[.int .i64 p.1, .int .i64 p.2], .agg #[.int .i64 q.1, .int .i64 q.2]] w fun e w' => e = .returned (.tuple #[.agg #[.int .i64 (mkA (thrA q p) (thrB q p) (thrD q p)), .int .i64 (mkB (thrA q p) (thrB q p) (thrD q p)), .int .i64 (mkD (thrA q p) (thrB q p) (thrD q p))], .int .i64 (mkE (thrA q p) (thrB q p) (thrD q p))]) ∧ Below w.heap.size w w' := by
  obtain ⟨ph, px⟩ := p
  obtain ⟨qh, qx⟩ := q
  dsimp only at *
  have H1 := Lib.hid hp
  have H2 := Lib.hid hq
  have HM : Hid (∀ w, Calls Tryz.prog 23 #[.int .i64 (qx * (ph - qh) - qh * (px - qx)), .int .i64 (px - qx), .int .i64 (ph - qh)] w fun e w' => e = .returned (.tuple #[.agg #[.int .i64 (mkA (thrA (qh, qx) (ph, px)) (thrB (qh, qx) (ph, px)) (thrD (qh, qx) (ph, px))), .int .i64 (mkB (thrA (qh, qx) (ph, px)) (thrB (qh, qx) (ph, px)) (thrD (qh, qx) (ph, px))), .int .i64 (mkD (thrA (qh, qx) (ph, px)) (thrB (qh, qx) (ph, px)) (thrD (qh, qx) (ph, px)))], .int .i64 (mkE (thrA (qh, qx) (ph, px)) (thrB (qh, qx) (ph, px)) (thrD (qh, qx) (ph, px)))]) ∧ Below w.heap.size w w') := fun w => by
    have := make_any (thrA (qh, qx) (ph, px)) (thrB (qh, qx) (ph, px)) (thrD (qh, qx) (ph, px)) w
    have e : thrA (qh, qx) (ph, px) = qx * (ph - qh) - qh * (px - qx) := rfl
    rw [← e]; exact this
  unfold InPt at hp hq
  obtain ⟨a1, a2, a3, a4⟩ := hp
  obtain ⟨c1, c2, c3, c4⟩ := hq
  have m1 := prod_bd (a := qx) (b := ph - qh) (A := 10000) (B := 200000) (by omega) (by omega) (by omega) (by omega)
  have m2 := prod_bd (a := qh) (b := px - qx) (A := 200000) (B := 20000) (by omega) (by omega) (by omega) (by omega)
  obtain ⟨m3, m4⟩ := m1
  obtain ⟨m5, m6⟩ := m2
  go_enter Tryz.func24, Tryz.ntmps24
  go_wp2_with (first | (go_at_call 43; (with_reducible (first | refine calls_after2 (validPoint_t _ _ _ (by first | exact H1.out | exact H2.out)) ?_ | refine calls_after (validPoint_t _ _ _ (by first | exact H1.out | exact H2.out)) ?_)); intro x1))
  go_quiet (fail)
  go_wp2_with (first | (go_at_call 23; (with_reducible (first | refine calls_after2 (HM.out _) ?_ | refine calls_afterD (HM.out _) ?_ | refine calls_after (HM.out _) ?_)); intro x2))
  go_returns
  exact ⟨rfl, by (repeat' (first | (with_reducible exact Below.refl _ _) | (with_reducible assumption) | (with_reducible refine Below.alloc ?_ ?_ _) | (with_reducible refine Below.drew ?_) | (with_reducible refine below_drewN ?_ _) | (with_reducible refine Below.setCell ?_ ?_ _) | (with_reducible refine below_after ?_ ?_ _) | (with_reducible refine below_set ?_) | (with_reducible refine After.size_le _ ?_) | (with_reducible refine size_alloc_le ?_) | (with_reducible refine size_set_le ?_) | (with_reducible refine size_drewN_le ?_) | go_size))⟩
end Go.Proofs.YtldopcneellfbaaGreatDoor.Aw
