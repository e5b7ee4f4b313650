/- WindStricter: the law's walk. -/
import Derived.Test.YtfmoedlnjlkiiaaDoorWda
import Derived.Test.YtfmoedlnjlkiiaaDoorWdx
import Derived.Test.YtfmoedlnjlkiiaaDoorItz
import Derived.Deep.DeepCutAuto
namespace Go.Proofs.YtfmoedlnjlkiiaaDoor
open Go.RowKit
attribute [local go_sem] After.cell After.frozen After.lt After.le After.ne After.ne' After.set_eq After.size_set After.lt_add

theorem after_ofs {W W' : World} (h : Below W.heap.size W W') : ∃ y : After W, W' = y.w := ⟨⟨W', h⟩, rfl⟩
/-- A rule in its box. -/
structure RuAt (W : World) (B : Nat) (s g c : Int) : Prop where
  c0 : W.cell? ⟨B, 0, none⟩ = some (.int .i64 s)
  c1 : W.cell? ⟨B, 1, none⟩ = some (.int .i64 g)
  c2 : W.cell? ⟨B, 2, none⟩ = some (.int .i64 c)
  fz : ∀ o, W.frozen? ⟨B, o, none⟩ = false
theorem RuAt.on {W W' : World} {B : Nat} {s g c : Int} (h : RuAt W B s g c) (hb : Below W.heap.size W W') : RuAt W' B s g c := by
  have l := World.block_lt_of_cell? W _ h.c0
  exact ⟨(hb.cell (p := ⟨B, 0, none⟩) l).trans h.c0, (hb.cell (p := ⟨B, 1, none⟩) l).trans h.c1, (hb.cell (p := ⟨B, 2, none⟩) l).trans h.c2, fun o => (hb.frozen (p := ⟨B, o, none⟩) l).trans (h.fz o)⟩

theorem ru_other {Y : World} {B R : Nat} {s0 g0 c0 : Int} (h : RuAt Y R s0 g0 c0) (hne : R ≠ B) (s g c ca : Int) : RuAt ((((Y.setCell ⟨B, 0, none⟩ (.int .i64 s)).setCell ⟨B, 1, none⟩ (.int .i64 g)).setCell ⟨B, 2, none⟩ (.int .i64 c)).setCell ⟨B, 2, none⟩ (.int .i64 ca)) R s0 g0 c0 := by
  have F : Fr (fun i => i = B) Y ((((Y.setCell ⟨B, 0, none⟩ (.int .i64 s)).setCell ⟨B, 1, none⟩ (.int .i64 g)).setCell ⟨B, 2, none⟩ (.int .i64 c)).setCell ⟨B, 2, none⟩ (.int .i64 ca)) := ((((Fr.refl (M := fun i => i = B) Y).setCell (p := ⟨B, 0, none⟩) (.inl rfl) _).setCell (p := ⟨B, 1, none⟩) (.inl rfl) _).setCell (p := ⟨B, 2, none⟩) (.inl rfl) _).setCell (p := ⟨B, 2, none⟩) (.inl rfl) _
  exact ⟨F.cell (p := ⟨R, 0, none⟩) hne h.c0, F.cell (p := ⟨R, 1, none⟩) hne h.c1, F.cell (p := ⟨R, 2, none⟩) hne h.c2, fun o => (F.frozen (p := ⟨R, o, none⟩) hne (show R < Y.heap.size from World.block_lt_of_cell? Y ⟨R, 0, none⟩ h.c0)).trans (h.fz o)⟩
theorem ru_store {Y : World} {B : Nat} {s0 g0 c0 : Int} (h : RuAt Y B s0 g0 c0) (s g c ca : Int) : RuAt ((((Y.setCell ⟨B, 0, none⟩ (.int .i64 s)).setCell ⟨B, 1, none⟩ (.int .i64 g)).setCell ⟨B, 2, none⟩ (.int .i64 c)).setCell ⟨B, 2, none⟩ (.int .i64 ca)) B s g ca := by
  have n01 : (⟨B, 1, none⟩ : Addr) ≠ ⟨B, 0, none⟩ := by simp
  refine ⟨?_, ?_, ?_, fun o => by simpa using h.fz o⟩
  · rw [World.cell?_setCell_other _ _ _ _ (by simp), World.cell?_setCell_other _ _ _ _ (by simp), World.cell?_setCell_other _ _ _ _ (by simp)]
    exact World.cell?_setCell_same _ _ _ h.c0
  · rw [World.cell?_setCell_other _ _ _ _ (by simp), World.cell?_setCell_other _ _ _ _ (by simp)]
    exact World.cell?_setCell_same _ _ _ ((World.cell?_setCell_other _ _ _ _ (by simp)).trans h.c1)
  · exact World.cell?_setCell_same _ _ _ (World.cell?_setCell_same _ _ _ ((World.cell?_setCell_other _ _ _ _ (by simp)).trans ((World.cell?_setCell_other _ _ _ _ (by simp)).trans h.c2)))
set_option maxRecDepth 100000 in
set_option maxHeartbeats 16000000 in
theorem windStricter_any (s g c : Int) (a : Option Addr) (n cap : Nat) (f : Nat → Int) (st ca : Int) (w : World) (hA : IAt w a n f) (hS : Stw w) :
    Calls Tryd.prog 5 #[.agg #[.int .i64 s, .int .i64 g, .int .i64 c], .slice a n cap, .int .i64 st, .int .i64 ca] w fun e w' => e = .returned (.bool true) ∧ Below w.heap.size w w' := by
  have HAw := Lib.hid (fun W (hW : Below w.heap.size w W) => awake_any W (hS.on hW))
  by_cases hn : (300 : Int) < n
  · go_enter Tryd.func5, Tryd.ntmps5
    go_wp2_with fail
    refine calls_after (HAw.out _ (by (repeat' (first | (with_reducible exact Below.refl _ _) | (with_reducible assumption) | (with_reducible refine Below.alloc ?_ ?_ _) | (with_reducible refine Below.drew ?_) | (with_reducible refine below_drewN ?_ _) | (with_reducible refine Below.setCell ?_ ?_ _) | (with_reducible refine below_after ?_ ?_ _) | (with_reducible refine below_set ?_) | (with_reducible refine After.size_le _ ?_) | (with_reducible refine size_alloc_le ?_) | (with_reducible refine size_set_le ?_) | (with_reducible refine size_drewN_le ?_) | go_size)))) ?_
    intro x1
    go_wp2
    go_ret
    exact ⟨rfl, by (repeat' (first | (with_reducible exact Below.refl _ _) | (with_reducible assumption) | (with_reducible refine Below.alloc ?_ ?_ _) | (with_reducible refine Below.drew ?_) | (with_reducible refine below_drewN ?_ _) | (with_reducible refine Below.setCell ?_ ?_ _) | (with_reducible refine below_after ?_ ?_ _) | (with_reducible refine below_set ?_) | (with_reducible refine After.size_le _ ?_) | (with_reducible refine size_alloc_le ?_) | (with_reducible refine size_set_le ?_) | (with_reducible refine size_drewN_le ?_) | go_size))⟩
  have hn300 : n ≤ 300 := by omega
  have hnd : decide ((300 : Int) < n) = false := decide_eq_false hn
  have P1 := Lib.hid (fun W (hW : Below w.heap.size w W) => stops_any s g c a n cap f W (hA.on hW))
  cases hk : AskB s g c n f
  · have e1 : asE s g c n f = 1 := by unfold asE; rw [hk]; rfl
    rw [e1] at P1
    go_enter Tryd.func5, Tryd.ntmps5
    go_wp2_with fail
    refine calls_after (HAw.out _ (by (repeat' (first | (with_reducible exact Below.refl _ _) | (with_reducible assumption) | (with_reducible refine Below.alloc ?_ ?_ _) | (with_reducible refine Below.drew ?_) | (with_reducible refine below_drewN ?_ _) | (with_reducible refine Below.setCell ?_ ?_ _) | (with_reducible refine below_after ?_ ?_ _) | (with_reducible refine below_set ?_) | (with_reducible refine After.size_le _ ?_) | (with_reducible refine size_alloc_le ?_) | (with_reducible refine size_set_le ?_) | (with_reducible refine size_drewN_le ?_) | go_size)))) ?_
    intro x1
    have hB1 := Lib.hid (show Below w.heap.size w x1.w by (repeat' (first | (with_reducible exact Below.refl _ _) | (with_reducible assumption) | (with_reducible refine Below.alloc ?_ ?_ _) | (with_reducible refine Below.drew ?_) | (with_reducible refine below_drewN ?_ _) | (with_reducible refine Below.setCell ?_ ?_ _) | (with_reducible refine below_after ?_ ?_ _) | (with_reducible refine below_set ?_) | (with_reducible refine After.size_le _ ?_) | (with_reducible refine size_alloc_le ?_) | (with_reducible refine size_set_le ?_) | (with_reducible refine size_drewN_le ?_) | go_size)))
    go_wp2_with fail
    refine (P1.out _ hB1.out).mono ?_
    rintro e w2 ⟨⟨v, rfl, _⟩, hb2⟩
    have hB2 := Lib.hid (hB1.out.trans (hb2.mono hB1.out.size))
    go_wp2
    go_ret
    exact ⟨rfl, hB2.out⟩
  obtain ⟨hGG, hRu⟩ := ask_of hk
  have e1 : asE s g c n f = 0 := by unfold asE; rw [hk]; rfl
  rw [e1] at P1
  have P2 := Lib.hid (fun W (hW : Below w.heap.size w W) => stops_any st g c a n cap f W (hA.on hW))
  have HR := Lib.hid (fun W => rvalidRule_any s g ca W)
  have HG1 := Lib.hid (fun (k : Nat) W (hW : Below w.heap.size w W) => goes_say s g ca a n cap f k W (hA.on hW))
  have HG2 := Lib.hid (fun (k : Nat) W (hW : Below w.heap.size w W) => goes_say s g c a n cap f k W (hA.on hW))
  have HX := Lib.hid (fun (hs : st ≤ s) (h' : AskB st g c n f = true) p r (h : stL s g c n f = p :: r) => strict_first hs hk h' h)
  clear hA hS
  have hnI : (n : Int) ≤ 300 := by omega
  obtain ⟨L, hL⟩ : ∃ L, stL s g c n f = L := ⟨_, rfl⟩
  obtain ⟨L', hL'⟩ : ∃ L', stL st g c n f = L' := ⟨_, rfl⟩
  obtain ⟨E', hE'⟩ : ∃ E', asE st g c n f = E' := ⟨_, rfl⟩
  rw [hL] at P1 HX
  rw [hL', hE'] at P2
  rw [hL'] at HX
  have HE : Hid (E' = if AskB st g c n f then 0 else 1) := Lib.hid (by rw [← hE']; rfl)
  clear hL hL' hE' e1
  by_cases hk' : AskB st g c n f = true
  · have hE0 : E' = 0 := by rw [HE.out, if_pos hk']
    subst hE0
    by_cases hst : st ≤ s
    · rcases L with _ | ⟨p, r⟩
      · skip
        go_enter Tryd.func5, Tryd.ntmps5
        go_wp2_with fail
        refine calls_after (HAw.out _ (by (repeat' (first | (with_reducible exact Below.refl _ _) | (with_reducible assumption) | (with_reducible refine Below.alloc ?_ ?_ _) | (with_reducible refine Below.drew ?_) | (with_reducible refine below_drewN ?_ _) | (with_reducible refine Below.setCell ?_ ?_ _) | (with_reducible refine below_after ?_ ?_ _) | (with_reducible refine below_set ?_) | (with_reducible refine After.size_le _ ?_) | (with_reducible refine size_alloc_le ?_) | (with_reducible refine size_set_le ?_) | (with_reducible refine size_drewN_le ?_) | go_size)))) ?_
        intro x1
        have hB1 := Lib.hid (show Below w.heap.size w x1.w by (repeat' (first | (with_reducible exact Below.refl _ _) | (with_reducible assumption) | (with_reducible refine Below.alloc ?_ ?_ _) | (with_reducible refine Below.drew ?_) | (with_reducible refine below_drewN ?_ _) | (with_reducible refine Below.setCell ?_ ?_ _) | (with_reducible refine below_after ?_ ?_ _) | (with_reducible refine below_set ?_) | (with_reducible refine After.size_le _ ?_) | (with_reducible refine size_alloc_le ?_) | (with_reducible refine size_set_le ?_) | (with_reducible refine size_drewN_le ?_) | go_size)))
        have r1 : Hid (RuAt x1.w w.heap.size s g c) := Lib.hid (RuAt.on (W := w.alloc (.cells #[.int .i64 s, .int .i64 g, .int .i64 c] 23)) ⟨by simp [go_sem], by simp [go_sem], by simp [go_sem], fun o => by simp [go_sem]⟩ x1.out)
        go_wp2_with fail
        refine (P1.out _ hB1.out).mono ?_
        rintro e w2 ⟨⟨v, rfl, hv⟩, hb2⟩
        have hv2 := Lib.hid hv.in
        have hB2 := Lib.hid (hB1.out.trans (hb2.mono hB1.out.size))
        have r2 := Lib.hid (r1.out.on hb2)
        have hs2 := hB2.out.size
        obtain ⟨q0, q1, q2, qf⟩ := r2.out
        have hlt2 : w.heap.size < w2.heap.size := World.block_lt_of_cell? w2 _ q0
        clear hv hb2 r1 hB1 HAw P1
        go_wp2_with fail
        have bA : Below w2.heap.size w2 (w2.alloc (.cells #[.int .i64 st, .int .i64 g, .int .i64 c] 23)) := (Below.refl _ w2).alloc (Nat.le_refl _) _
        refine (P2.out _ (hB2.out.trans (bA.mono hs2))).mono ?_
        rintro e w4 ⟨⟨v', rfl, hv'⟩, hb4⟩
        have hv4' := Lib.hid hv'.in
        have b24 := bA.trans (hb4.mono (by simp))
        have hv4 := Lib.hid (hv2.out.on b24)
        have hB4 := Lib.hid (hB2.out.trans (b24.mono hs2))
        have r4 := Lib.hid (r2.out.on b24)
        have s4 : Hid (RuAt w4 w2.heap.size st g c) := Lib.hid (RuAt.on (W := w2.alloc (.cells #[.int .i64 st, .int .i64 g, .int .i64 c] 23)) ⟨by simp [go_sem], by simp [go_sem], by simp [go_sem], fun o => by simp [go_sem]⟩ hb4)
        have hs4 := hb4.size
        simp only [World.size_alloc] at hs4
        clear hv' hb4 b24 bA hv2 q0 q1 q2 qf r2 P2 hB2
        have hne : w2.heap.size ≠ w.heap.size := by omega
        have hBw : w.heap.size ≤ w2.heap.size := by omega
        generalize w2.heap.size = B at *
        obtain ⟨q0, q1, q2, qf⟩ := r4.out
        have l4 : w.heap.size < w4.heap.size := by omega
        obtain ⟨av, cv, rfl, _⟩ := hv4.out
        obtain ⟨av', cv', rfl, _⟩ := hv4'.out
        go_wp2_with fail
        refine wp_region_after (by kernel_rfl) (by kernel_rfl) ?_; (repeat (first | go_big_quiet_step ((fail)) | (refine wpQuiet_step (fun K hK => ?_); go_simp; first | (refine hK _ ?_; clear hK K) | (apply Exists.intro; refine ⟨fun x => ?_, hK _ ?_⟩; (fail); clear hK K)))); refine wpQuiet_nil ?_
        intro y
        have r5 := Lib.hid (r4.out.on y.out)
        have s5 := Lib.hid (s4.out.on y.out)
        have hB5 := Lib.hid (hB4.out.trans (y.out.mono hB4.out.size))
        have hs5 := y.out.size
        obtain ⟨q0, q1, q2, qf⟩ := r5.out
        obtain ⟨p0, p1, p2, pf⟩ := s5.out
        have pf0 := pf 0
        have pf1 := pf 1
        have pf2 := pf 2
        have l5 : w.heap.size < y.w.heap.size := by omega
        generalize y.w = Y at *
        clear r4 s4 hv4 hv4' hB4
        go_upto_region 15 with (fail)
        have rX := Lib.hid (ru_other r5.out (B := B) (fun h => hne h.symm) s g c ca)
        have sX := Lib.hid (ru_store s5.out s g c ca)
        have hBX : Hid (Below w.heap.size w ((((Y.setCell ⟨B, 0, none⟩ (.int .i64 s)).setCell ⟨B, 1, none⟩ (.int .i64 g)).setCell ⟨B, 2, none⟩ (.int .i64 c)).setCell ⟨B, 2, none⟩ (.int .i64 ca))) := Lib.hid ((((hB5.out.setCell (p := ⟨B, 0, none⟩) hBw _).setCell (p := ⟨B, 1, none⟩) hBw _).setCell (p := ⟨B, 2, none⟩) hBw _).setCell (p := ⟨B, 2, none⟩) hBw _)
        have hsX : ((((Y.setCell ⟨B, 0, none⟩ (.int .i64 s)).setCell ⟨B, 1, none⟩ (.int .i64 g)).setCell ⟨B, 2, none⟩ (.int .i64 c)).setCell ⟨B, 2, none⟩ (.int .i64 ca)).heap.size = Y.heap.size := by simp
        have hBY : B < Y.heap.size := World.block_lt_of_cell? Y _ p0
        generalize ((((Y.setCell ⟨B, 0, none⟩ (.int .i64 s)).setCell ⟨B, 1, none⟩ (.int .i64 g)).setCell ⟨B, 2, none⟩ (.int .i64 c)).setCell ⟨B, 2, none⟩ (.int .i64 ca)) = X at *
        clear q0 q1 q2 qf p0 p1 p2 pf pf0 pf1 pf2 r5 s5 hB5
        obtain ⟨q0, q1, q2, qf⟩ := rX.out
        obtain ⟨p0, p1, p2, pf⟩ := sX.out
        have lX : w.heap.size < X.heap.size := by omega
        have mX : B < X.heap.size := by omega
        by_cases hca : ca < c
        · have hca' : decide (ca < c) = true := decide_eq_true hca
          go_wp2
          go_ret
          exact ⟨rfl, hBX.out⟩
        have hca' : decide (ca < c) = false := decide_eq_false hca
        by_cases hru : GoodRu s g ca
        · have HR1 : Hid (∀ W, Calls Tryd.prog 17 #[.agg #[.int .i64 s, .int .i64 g, .int .i64 ca]] W fun e w' => e = .returned (.bool true) ∧ Below W.heap.size W w') := Lib.hid fun W => by
            have := HR.out W
            rw [decide_eq_true hru] at this
            exact this
          have hk2 : AskB s g ca n f = true := by unfold AskB; rw [decide_eq_true hGG, decide_eq_true hru]; rfl
          have HGa : Hid (∀ (k : Nat) W, k < n → Below w.heap.size w W → Calls Tryd.prog 19 #[.agg #[.int .i64 s, .int .i64 g, .int .i64 ca], .slice a n cap, .int .i64 k] W fun e w' => e = .returned (.tuple #[.bool (gW s g ca f k), .int .i64 0]) ∧ Below W.heap.size W w') := Lib.hid fun k W hkn hW => by
            have h := HG1.out k W hW
            unfold goB goE at h
            have hb : Btw (k : Int) 0 ((n : Int) - 1) := by unfold Btw; omega
            rw [hk2, decide_eq_true hb, if_pos hb] at h
            simpa using h
          have HGb : Hid (∀ (k : Nat) W, k < n → Below w.heap.size w W → Calls Tryd.prog 19 #[.agg #[.int .i64 s, .int .i64 g, .int .i64 c], .slice a n cap, .int .i64 k] W fun e w' => e = .returned (.tuple #[.bool (gW s g c f k), .int .i64 0]) ∧ Below W.heap.size W w') := Lib.hid fun k W hkn hW => by
            have h := HG2.out k W hW
            unfold goB goE at h
            have hb : Btw (k : Int) 0 ((n : Int) - 1) := by unfold Btw; omega
            rw [hk, decide_eq_true hb, if_pos hb] at h
            simpa using h
          have HCa : Hid (∀ k, gW s g ca f k = true → gW s g c f k = true) := Lib.hid fun k h => calm_goes hRu.2.1.2 hRu.2.2.1 (by omega) h
          go_wp2_with fail
          refine calls_after (HR1.out _) ?_
          intro x6
          go_wp2
          go_loopw [14] (fun i wr => ∃ k : Nat, k ≤ n ∧ i = .int .i64 k ∧ ∃ x : After X, wr = x.w) (fun i _ => n - (intOf i).toNat)
          case atStart => exact ⟨0, by omega, rfl, x6, rfl⟩
          case round =>
            obtain ⟨k, hkk, rfl, x7, rfl⟩ := hrel
            by_cases hlt : k < n
            · have hlti : (k : Int) < (n : Int) := by omega
              have h1 := HGa.out k x7.w hlt (hBX.out.trans (x7.out.mono hBX.out.size))
              have h1 := Lib.hid h1
              have h2 := Lib.hid (fun W hW => HGb.out k W hlt hW)
              have h3 := Lib.hid (HCa.out k)
              have hBX2 := hBX.out
              generalize gW s g ca f k = z1 at *
              generalize gW s g c f k = z2 at *
              cases z1
              · go_wp2_with fail
                refine calls_after2 h1.out ?_
                intro x8
                go_wp2_with fail
                refine calls_after2 (h2.out _ (by (repeat' (first | (with_reducible exact Below.refl _ _) | (with_reducible assumption) | (with_reducible refine Below.alloc ?_ ?_ _) | (with_reducible refine Below.drew ?_) | (with_reducible refine below_drewN ?_ _) | (with_reducible refine Below.setCell ?_ ?_ _) | (with_reducible refine below_after ?_ ?_ _) | (with_reducible refine below_set ?_) | (with_reducible refine After.size_le _ ?_) | (with_reducible refine size_alloc_le ?_) | (with_reducible refine size_set_le ?_) | (with_reducible refine size_drewN_le ?_) | go_size)))) ?_
                intro x9
                go_wp2
                go_roundw
                case rel => exact ⟨k + 1, by omega, by go_num, x9, rfl⟩
                case measure => simp [intOf]; omega
              · obtain rfl := h3.out rfl
                go_wp2_with fail
                refine calls_after2 h1.out ?_
                intro x8
                go_wp2_with fail
                refine calls_after2 (h2.out _ (by (repeat' (first | (with_reducible exact Below.refl _ _) | (with_reducible assumption) | (with_reducible refine Below.alloc ?_ ?_ _) | (with_reducible refine Below.drew ?_) | (with_reducible refine below_drewN ?_ _) | (with_reducible refine Below.setCell ?_ ?_ _) | (with_reducible refine below_after ?_ ?_ _) | (with_reducible refine below_set ?_) | (with_reducible refine After.size_le _ ?_) | (with_reducible refine size_alloc_le ?_) | (with_reducible refine size_set_le ?_) | (with_reducible refine size_drewN_le ?_) | go_size)))) ?_
                intro x9
                go_wp2
                go_roundw
                case rel => exact ⟨k + 1, by omega, by go_num, x9, rfl⟩
                case measure => simp [intOf]; omega
            · obtain rfl : k = n := by omega
              have hBX2 := hBX.out
              go_wp2
              go_ret
              exact ⟨rfl, by (repeat' (first | (with_reducible exact Below.refl _ _) | (with_reducible assumption) | (with_reducible refine Below.alloc ?_ ?_ _) | (with_reducible refine Below.drew ?_) | (with_reducible refine below_drewN ?_ _) | (with_reducible refine Below.setCell ?_ ?_ _) | (with_reducible refine below_after ?_ ?_ _) | (with_reducible refine below_set ?_) | (with_reducible refine After.size_le _ ?_) | (with_reducible refine size_alloc_le ?_) | (with_reducible refine size_set_le ?_) | (with_reducible refine size_drewN_le ?_) | go_size))⟩
        · have HR1 : Hid (∀ W, Calls Tryd.prog 17 #[.agg #[.int .i64 s, .int .i64 g, .int .i64 ca]] W fun e w' => e = .returned (.bool false) ∧ Below W.heap.size W w') := Lib.hid fun W => by
            have := HR.out W
            rw [decide_eq_false hru] at this
            exact this
          have hBX2 := hBX.out
          go_wp2_with fail
          refine calls_after (HR1.out _) ?_
          intro x6
          go_wp2
          go_ret
          exact ⟨rfl, by (repeat' (first | (with_reducible exact Below.refl _ _) | (with_reducible assumption) | (with_reducible refine Below.alloc ?_ ?_ _) | (with_reducible refine Below.drew ?_) | (with_reducible refine below_drewN ?_ _) | (with_reducible refine Below.setCell ?_ ?_ _) | (with_reducible refine below_after ?_ ?_ _) | (with_reducible refine below_set ?_) | (with_reducible refine After.size_le _ ?_) | (with_reducible refine size_alloc_le ?_) | (with_reducible refine size_set_le ?_) | (with_reducible refine size_drewN_le ?_) | go_size))⟩
      · obtain ⟨p', r', hL', hle⟩ := HX.out hst hk' p r rfl
        subst hL'
        go_enter Tryd.func5, Tryd.ntmps5
        go_wp2_with fail
        refine calls_after (HAw.out _ (by (repeat' (first | (with_reducible exact Below.refl _ _) | (with_reducible assumption) | (with_reducible refine Below.alloc ?_ ?_ _) | (with_reducible refine Below.drew ?_) | (with_reducible refine below_drewN ?_ _) | (with_reducible refine Below.setCell ?_ ?_ _) | (with_reducible refine below_after ?_ ?_ _) | (with_reducible refine below_set ?_) | (with_reducible refine After.size_le _ ?_) | (with_reducible refine size_alloc_le ?_) | (with_reducible refine size_set_le ?_) | (with_reducible refine size_drewN_le ?_) | go_size)))) ?_
        intro x1
        have hB1 := Lib.hid (show Below w.heap.size w x1.w by (repeat' (first | (with_reducible exact Below.refl _ _) | (with_reducible assumption) | (with_reducible refine Below.alloc ?_ ?_ _) | (with_reducible refine Below.drew ?_) | (with_reducible refine below_drewN ?_ _) | (with_reducible refine Below.setCell ?_ ?_ _) | (with_reducible refine below_after ?_ ?_ _) | (with_reducible refine below_set ?_) | (with_reducible refine After.size_le _ ?_) | (with_reducible refine size_alloc_le ?_) | (with_reducible refine size_set_le ?_) | (with_reducible refine size_drewN_le ?_) | go_size)))
        have r1 : Hid (RuAt x1.w w.heap.size s g c) := Lib.hid (RuAt.on (W := w.alloc (.cells #[.int .i64 s, .int .i64 g, .int .i64 c] 23)) ⟨by simp [go_sem], by simp [go_sem], by simp [go_sem], fun o => by simp [go_sem]⟩ x1.out)
        go_wp2_with fail
        refine (P1.out _ hB1.out).mono ?_
        rintro e w2 ⟨⟨v, rfl, hv⟩, hb2⟩
        have hv2 := Lib.hid hv.in
        have hB2 := Lib.hid (hB1.out.trans (hb2.mono hB1.out.size))
        have r2 := Lib.hid (r1.out.on hb2)
        have hs2 := hB2.out.size
        obtain ⟨q0, q1, q2, qf⟩ := r2.out
        have hlt2 : w.heap.size < w2.heap.size := World.block_lt_of_cell? w2 _ q0
        clear hv hb2 r1 hB1 HAw P1
        go_wp2_with fail
        have bA : Below w2.heap.size w2 (w2.alloc (.cells #[.int .i64 st, .int .i64 g, .int .i64 c] 23)) := (Below.refl _ w2).alloc (Nat.le_refl _) _
        refine (P2.out _ (hB2.out.trans (bA.mono hs2))).mono ?_
        rintro e w4 ⟨⟨v', rfl, hv'⟩, hb4⟩
        have hv4' := Lib.hid hv'.in
        have b24 := bA.trans (hb4.mono (by simp))
        have hv4 := Lib.hid (hv2.out.on b24)
        have hB4 := Lib.hid (hB2.out.trans (b24.mono hs2))
        have r4 := Lib.hid (r2.out.on b24)
        have s4 : Hid (RuAt w4 w2.heap.size st g c) := Lib.hid (RuAt.on (W := w2.alloc (.cells #[.int .i64 st, .int .i64 g, .int .i64 c] 23)) ⟨by simp [go_sem], by simp [go_sem], by simp [go_sem], fun o => by simp [go_sem]⟩ hb4)
        have hs4 := hb4.size
        simp only [World.size_alloc] at hs4
        clear hv' hb4 b24 bA hv2 q0 q1 q2 qf r2 P2 hB2
        have hne : w2.heap.size ≠ w.heap.size := by omega
        have hBw : w.heap.size ≤ w2.heap.size := by omega
        generalize w2.heap.size = B at *
        obtain ⟨q0, q1, q2, qf⟩ := r4.out
        have l4 : w.heap.size < w4.heap.size := by omega
        obtain ⟨av, cv, rfl, hvc⟩ := hv4.out
        obtain ⟨av', cv', rfl, hvc'⟩ := hv4'.out
        obtain ⟨b, off, rfl, hb, c0, _⟩ := hvc 0 (by simp)
        obtain ⟨b', off', rfl, hb', c0', _⟩ := hvc' 0 (by simp)
        have hc0 : w4.cell? ⟨b, off, none⟩ = some (.int .i64 p.1) := by simpa using c0
        have hc0' : w4.cell? ⟨b', off', none⟩ = some (.int .i64 p'.1) := by simpa using c0'
        have hz : decide (p.1 < p'.1) = false := decide_eq_false (by omega)
        have hl1 : (0 : Int) < (r.length : Int) + 1 := by omega
        have hl2 : (0 : Int) < (r'.length : Int) + 1 := by omega
        have hl3 : (((r'.length : Int) + 1) == 0) = false := beq_eq_false_iff_ne.2 (by omega)
        clear c0 c0' hvc hvc' hle
        go_wp2_with fail
        refine wp_region_after (by kernel_rfl) (by kernel_rfl) ?_; (repeat (first | go_big_quiet_step ((fail)) | (refine wpQuiet_step (fun K hK => ?_); go_simp; first | (refine hK _ ?_; clear hK K) | (apply Exists.intro; refine ⟨fun x => ?_, hK _ ?_⟩; (fail); clear hK K)))); refine wpQuiet_nil ?_
        intro y
        have r5 := Lib.hid (r4.out.on y.out)
        have s5 := Lib.hid (s4.out.on y.out)
        have hB5 := Lib.hid (hB4.out.trans (y.out.mono hB4.out.size))
        have hs5 := y.out.size
        obtain ⟨q0, q1, q2, qf⟩ := r5.out
        obtain ⟨p0, p1, p2, pf⟩ := s5.out
        have pf0 := pf 0
        have pf1 := pf 1
        have pf2 := pf 2
        have l5 : w.heap.size < y.w.heap.size := by omega
        generalize y.w = Y at *
        clear r4 s4 hv4 hv4' hB4
        go_upto_region 15 with (fail)
        have rX := Lib.hid (ru_other r5.out (B := B) (fun h => hne h.symm) s g c ca)
        have sX := Lib.hid (ru_store s5.out s g c ca)
        have hBX : Hid (Below w.heap.size w ((((Y.setCell ⟨B, 0, none⟩ (.int .i64 s)).setCell ⟨B, 1, none⟩ (.int .i64 g)).setCell ⟨B, 2, none⟩ (.int .i64 c)).setCell ⟨B, 2, none⟩ (.int .i64 ca))) := Lib.hid ((((hB5.out.setCell (p := ⟨B, 0, none⟩) hBw _).setCell (p := ⟨B, 1, none⟩) hBw _).setCell (p := ⟨B, 2, none⟩) hBw _).setCell (p := ⟨B, 2, none⟩) hBw _)
        have hsX : ((((Y.setCell ⟨B, 0, none⟩ (.int .i64 s)).setCell ⟨B, 1, none⟩ (.int .i64 g)).setCell ⟨B, 2, none⟩ (.int .i64 c)).setCell ⟨B, 2, none⟩ (.int .i64 ca)).heap.size = Y.heap.size := by simp
        have hBY : B < Y.heap.size := World.block_lt_of_cell? Y _ p0
        generalize ((((Y.setCell ⟨B, 0, none⟩ (.int .i64 s)).setCell ⟨B, 1, none⟩ (.int .i64 g)).setCell ⟨B, 2, none⟩ (.int .i64 c)).setCell ⟨B, 2, none⟩ (.int .i64 ca)) = X at *
        clear q0 q1 q2 qf p0 p1 p2 pf pf0 pf1 pf2 r5 s5 hB5
        obtain ⟨q0, q1, q2, qf⟩ := rX.out
        obtain ⟨p0, p1, p2, pf⟩ := sX.out
        have lX : w.heap.size < X.heap.size := by omega
        have mX : B < X.heap.size := by omega
        by_cases hca : ca < c
        · have hca' : decide (ca < c) = true := decide_eq_true hca
          go_wp2
          go_ret
          exact ⟨rfl, hBX.out⟩
        have hca' : decide (ca < c) = false := decide_eq_false hca
        by_cases hru : GoodRu s g ca
        · have HR1 : Hid (∀ W, Calls Tryd.prog 17 #[.agg #[.int .i64 s, .int .i64 g, .int .i64 ca]] W fun e w' => e = .returned (.bool true) ∧ Below W.heap.size W w') := Lib.hid fun W => by
            have := HR.out W
            rw [decide_eq_true hru] at this
            exact this
          have hk2 : AskB s g ca n f = true := by unfold AskB; rw [decide_eq_true hGG, decide_eq_true hru]; rfl
          have HGa : Hid (∀ (k : Nat) W, k < n → Below w.heap.size w W → Calls Tryd.prog 19 #[.agg #[.int .i64 s, .int .i64 g, .int .i64 ca], .slice a n cap, .int .i64 k] W fun e w' => e = .returned (.tuple #[.bool (gW s g ca f k), .int .i64 0]) ∧ Below W.heap.size W w') := Lib.hid fun k W hkn hW => by
            have h := HG1.out k W hW
            unfold goB goE at h
            have hb : Btw (k : Int) 0 ((n : Int) - 1) := by unfold Btw; omega
            rw [hk2, decide_eq_true hb, if_pos hb] at h
            simpa using h
          have HGb : Hid (∀ (k : Nat) W, k < n → Below w.heap.size w W → Calls Tryd.prog 19 #[.agg #[.int .i64 s, .int .i64 g, .int .i64 c], .slice a n cap, .int .i64 k] W fun e w' => e = .returned (.tuple #[.bool (gW s g c f k), .int .i64 0]) ∧ Below W.heap.size W w') := Lib.hid fun k W hkn hW => by
            have h := HG2.out k W hW
            unfold goB goE at h
            have hb : Btw (k : Int) 0 ((n : Int) - 1) := by unfold Btw; omega
            rw [hk, decide_eq_true hb, if_pos hb] at h
            simpa using h
          have HCa : Hid (∀ k, gW s g ca f k = true → gW s g c f k = true) := Lib.hid fun k h => calm_goes hRu.2.1.2 hRu.2.2.1 (by omega) h
          go_wp2_with fail
          refine calls_after (HR1.out _) ?_
          intro x6
          go_wp2
          go_loopw [14] (fun i wr => ∃ k : Nat, k ≤ n ∧ i = .int .i64 k ∧ ∃ x : After X, wr = x.w) (fun i _ => n - (intOf i).toNat)
          case atStart => exact ⟨0, by omega, rfl, x6, rfl⟩
          case round =>
            obtain ⟨k, hkk, rfl, x7, rfl⟩ := hrel
            by_cases hlt : k < n
            · have hlti : (k : Int) < (n : Int) := by omega
              have h1 := HGa.out k x7.w hlt (hBX.out.trans (x7.out.mono hBX.out.size))
              have h1 := Lib.hid h1
              have h2 := Lib.hid (fun W hW => HGb.out k W hlt hW)
              have h3 := Lib.hid (HCa.out k)
              have hBX2 := hBX.out
              generalize gW s g ca f k = z1 at *
              generalize gW s g c f k = z2 at *
              cases z1
              · go_wp2_with fail
                refine calls_after2 h1.out ?_
                intro x8
                go_wp2_with fail
                refine calls_after2 (h2.out _ (by (repeat' (first | (with_reducible exact Below.refl _ _) | (with_reducible assumption) | (with_reducible refine Below.alloc ?_ ?_ _) | (with_reducible refine Below.drew ?_) | (with_reducible refine below_drewN ?_ _) | (with_reducible refine Below.setCell ?_ ?_ _) | (with_reducible refine below_after ?_ ?_ _) | (with_reducible refine below_set ?_) | (with_reducible refine After.size_le _ ?_) | (with_reducible refine size_alloc_le ?_) | (with_reducible refine size_set_le ?_) | (with_reducible refine size_drewN_le ?_) | go_size)))) ?_
                intro x9
                go_wp2
                go_roundw
                case rel => exact ⟨k + 1, by omega, by go_num, x9, rfl⟩
                case measure => simp [intOf]; omega
              · obtain rfl := h3.out rfl
                go_wp2_with fail
                refine calls_after2 h1.out ?_
                intro x8
                go_wp2_with fail
                refine calls_after2 (h2.out _ (by (repeat' (first | (with_reducible exact Below.refl _ _) | (with_reducible assumption) | (with_reducible refine Below.alloc ?_ ?_ _) | (with_reducible refine Below.drew ?_) | (with_reducible refine below_drewN ?_ _) | (with_reducible refine Below.setCell ?_ ?_ _) | (with_reducible refine below_after ?_ ?_ _) | (with_reducible refine below_set ?_) | (with_reducible refine After.size_le _ ?_) | (with_reducible refine size_alloc_le ?_) | (with_reducible refine size_set_le ?_) | (with_reducible refine size_drewN_le ?_) | go_size)))) ?_
                intro x9
                go_wp2
                go_roundw
                case rel => exact ⟨k + 1, by omega, by go_num, x9, rfl⟩
                case measure => simp [intOf]; omega
            · obtain rfl : k = n := by omega
              have hBX2 := hBX.out
              go_wp2
              go_ret
              exact ⟨rfl, by (repeat' (first | (with_reducible exact Below.refl _ _) | (with_reducible assumption) | (with_reducible refine Below.alloc ?_ ?_ _) | (with_reducible refine Below.drew ?_) | (with_reducible refine below_drewN ?_ _) | (with_reducible refine Below.setCell ?_ ?_ _) | (with_reducible refine below_after ?_ ?_ _) | (with_reducible refine below_set ?_) | (with_reducible refine After.size_le _ ?_) | (with_reducible refine size_alloc_le ?_) | (with_reducible refine size_set_le ?_) | (with_reducible refine size_drewN_le ?_) | go_size))⟩
        · have HR1 : Hid (∀ W, Calls Tryd.prog 17 #[.agg #[.int .i64 s, .int .i64 g, .int .i64 ca]] W fun e w' => e = .returned (.bool false) ∧ Below W.heap.size W w') := Lib.hid fun W => by
            have := HR.out W
            rw [decide_eq_false hru] at this
            exact this
          have hBX2 := hBX.out
          go_wp2_with fail
          refine calls_after (HR1.out _) ?_
          intro x6
          go_wp2
          go_ret
          exact ⟨rfl, by (repeat' (first | (with_reducible exact Below.refl _ _) | (with_reducible assumption) | (with_reducible refine Below.alloc ?_ ?_ _) | (with_reducible refine Below.drew ?_) | (with_reducible refine below_drewN ?_ _) | (with_reducible refine Below.setCell ?_ ?_ _) | (with_reducible refine below_after ?_ ?_ _) | (with_reducible refine below_set ?_) | (with_reducible refine After.size_le _ ?_) | (with_reducible refine size_alloc_le ?_) | (with_reducible refine size_set_le ?_) | (with_reducible refine size_drewN_le ?_) | go_size))⟩
    · have hst' : decide (st ≤ s) = false := decide_eq_false hst
      clear hst
      go_enter Tryd.func5, Tryd.ntmps5
      go_wp2_with fail
      refine calls_after (HAw.out _ (by (repeat' (first | (with_reducible exact Below.refl _ _) | (with_reducible assumption) | (with_reducible refine Below.alloc ?_ ?_ _) | (with_reducible refine Below.drew ?_) | (with_reducible refine below_drewN ?_ _) | (with_reducible refine Below.setCell ?_ ?_ _) | (with_reducible refine below_after ?_ ?_ _) | (with_reducible refine below_set ?_) | (with_reducible refine After.size_le _ ?_) | (with_reducible refine size_alloc_le ?_) | (with_reducible refine size_set_le ?_) | (with_reducible refine size_drewN_le ?_) | go_size)))) ?_
      intro x1
      have hB1 := Lib.hid (show Below w.heap.size w x1.w by (repeat' (first | (with_reducible exact Below.refl _ _) | (with_reducible assumption) | (with_reducible refine Below.alloc ?_ ?_ _) | (with_reducible refine Below.drew ?_) | (with_reducible refine below_drewN ?_ _) | (with_reducible refine Below.setCell ?_ ?_ _) | (with_reducible refine below_after ?_ ?_ _) | (with_reducible refine below_set ?_) | (with_reducible refine After.size_le _ ?_) | (with_reducible refine size_alloc_le ?_) | (with_reducible refine size_set_le ?_) | (with_reducible refine size_drewN_le ?_) | go_size)))
      have r1 : Hid (RuAt x1.w w.heap.size s g c) := Lib.hid (RuAt.on (W := w.alloc (.cells #[.int .i64 s, .int .i64 g, .int .i64 c] 23)) ⟨by simp [go_sem], by simp [go_sem], by simp [go_sem], fun o => by simp [go_sem]⟩ x1.out)
      go_wp2_with fail
      refine (P1.out _ hB1.out).mono ?_
      rintro e w2 ⟨⟨v, rfl, hv⟩, hb2⟩
      have hv2 := Lib.hid hv.in
      have hB2 := Lib.hid (hB1.out.trans (hb2.mono hB1.out.size))
      have r2 := Lib.hid (r1.out.on hb2)
      have hs2 := hB2.out.size
      obtain ⟨q0, q1, q2, qf⟩ := r2.out
      have hlt2 : w.heap.size < w2.heap.size := World.block_lt_of_cell? w2 _ q0
      clear hv hb2 r1 hB1 HAw P1
      go_wp2_with fail
      have bA : Below w2.heap.size w2 (w2.alloc (.cells #[.int .i64 st, .int .i64 g, .int .i64 c] 23)) := (Below.refl _ w2).alloc (Nat.le_refl _) _
      refine (P2.out _ (hB2.out.trans (bA.mono hs2))).mono ?_
      rintro e w4 ⟨⟨v', rfl, hv'⟩, hb4⟩
      have hv4' := Lib.hid hv'.in
      have b24 := bA.trans (hb4.mono (by simp))
      have hv4 := Lib.hid (hv2.out.on b24)
      have hB4 := Lib.hid (hB2.out.trans (b24.mono hs2))
      have r4 := Lib.hid (r2.out.on b24)
      have s4 : Hid (RuAt w4 w2.heap.size st g c) := Lib.hid (RuAt.on (W := w2.alloc (.cells #[.int .i64 st, .int .i64 g, .int .i64 c] 23)) ⟨by simp [go_sem], by simp [go_sem], by simp [go_sem], fun o => by simp [go_sem]⟩ hb4)
      have hs4 := hb4.size
      simp only [World.size_alloc] at hs4
      clear hv' hb4 b24 bA hv2 q0 q1 q2 qf r2 P2 hB2
      have hne : w2.heap.size ≠ w.heap.size := by omega
      have hBw : w.heap.size ≤ w2.heap.size := by omega
      generalize w2.heap.size = B at *
      obtain ⟨q0, q1, q2, qf⟩ := r4.out
      have l4 : w.heap.size < w4.heap.size := by omega
      go_wp2_with fail
      refine wp_region_after (by kernel_rfl) (by kernel_rfl) ?_; (repeat (first | go_big_quiet_step ((fail)) | (refine wpQuiet_step (fun K hK => ?_); go_simp; first | (refine hK _ ?_; clear hK K) | (apply Exists.intro; refine ⟨fun x => ?_, hK _ ?_⟩; (fail); clear hK K)))); refine wpQuiet_nil ?_
      intro y
      have r5 := Lib.hid (r4.out.on y.out)
      have s5 := Lib.hid (s4.out.on y.out)
      have hB5 := Lib.hid (hB4.out.trans (y.out.mono hB4.out.size))
      have hs5 := y.out.size
      obtain ⟨q0, q1, q2, qf⟩ := r5.out
      obtain ⟨p0, p1, p2, pf⟩ := s5.out
      have pf0 := pf 0
      have pf1 := pf 1
      have pf2 := pf 2
      have l5 : w.heap.size < y.w.heap.size := by omega
      generalize y.w = Y at *
      clear r4 s4 hv4 hv4' hB4
      go_upto_region 15 with (fail)
      have rX := Lib.hid (ru_other r5.out (B := B) (fun h => hne h.symm) s g c ca)
      have sX := Lib.hid (ru_store s5.out s g c ca)
      have hBX : Hid (Below w.heap.size w ((((Y.setCell ⟨B, 0, none⟩ (.int .i64 s)).setCell ⟨B, 1, none⟩ (.int .i64 g)).setCell ⟨B, 2, none⟩ (.int .i64 c)).setCell ⟨B, 2, none⟩ (.int .i64 ca))) := Lib.hid ((((hB5.out.setCell (p := ⟨B, 0, none⟩) hBw _).setCell (p := ⟨B, 1, none⟩) hBw _).setCell (p := ⟨B, 2, none⟩) hBw _).setCell (p := ⟨B, 2, none⟩) hBw _)
      have hsX : ((((Y.setCell ⟨B, 0, none⟩ (.int .i64 s)).setCell ⟨B, 1, none⟩ (.int .i64 g)).setCell ⟨B, 2, none⟩ (.int .i64 c)).setCell ⟨B, 2, none⟩ (.int .i64 ca)).heap.size = Y.heap.size := by simp
      have hBY : B < Y.heap.size := World.block_lt_of_cell? Y _ p0
      generalize ((((Y.setCell ⟨B, 0, none⟩ (.int .i64 s)).setCell ⟨B, 1, none⟩ (.int .i64 g)).setCell ⟨B, 2, none⟩ (.int .i64 c)).setCell ⟨B, 2, none⟩ (.int .i64 ca)) = X at *
      clear q0 q1 q2 qf p0 p1 p2 pf pf0 pf1 pf2 r5 s5 hB5
      obtain ⟨q0, q1, q2, qf⟩ := rX.out
      obtain ⟨p0, p1, p2, pf⟩ := sX.out
      have lX : w.heap.size < X.heap.size := by omega
      have mX : B < X.heap.size := by omega
      by_cases hca : ca < c
      · have hca' : decide (ca < c) = true := decide_eq_true hca
        go_wp2
        go_ret
        exact ⟨rfl, hBX.out⟩
      have hca' : decide (ca < c) = false := decide_eq_false hca
      by_cases hru : GoodRu s g ca
      · have HR1 : Hid (∀ W, Calls Tryd.prog 17 #[.agg #[.int .i64 s, .int .i64 g, .int .i64 ca]] W fun e w' => e = .returned (.bool true) ∧ Below W.heap.size W w') := Lib.hid fun W => by
          have := HR.out W
          rw [decide_eq_true hru] at this
          exact this
        have hk2 : AskB s g ca n f = true := by unfold AskB; rw [decide_eq_true hGG, decide_eq_true hru]; rfl
        have HGa : Hid (∀ (k : Nat) W, k < n → Below w.heap.size w W → Calls Tryd.prog 19 #[.agg #[.int .i64 s, .int .i64 g, .int .i64 ca], .slice a n cap, .int .i64 k] W fun e w' => e = .returned (.tuple #[.bool (gW s g ca f k), .int .i64 0]) ∧ Below W.heap.size W w') := Lib.hid fun k W hkn hW => by
          have h := HG1.out k W hW
          unfold goB goE at h
          have hb : Btw (k : Int) 0 ((n : Int) - 1) := by unfold Btw; omega
          rw [hk2, decide_eq_true hb, if_pos hb] at h
          simpa using h
        have HGb : Hid (∀ (k : Nat) W, k < n → Below w.heap.size w W → Calls Tryd.prog 19 #[.agg #[.int .i64 s, .int .i64 g, .int .i64 c], .slice a n cap, .int .i64 k] W fun e w' => e = .returned (.tuple #[.bool (gW s g c f k), .int .i64 0]) ∧ Below W.heap.size W w') := Lib.hid fun k W hkn hW => by
          have h := HG2.out k W hW
          unfold goB goE at h
          have hb : Btw (k : Int) 0 ((n : Int) - 1) := by unfold Btw; omega
          rw [hk, decide_eq_true hb, if_pos hb] at h
          simpa using h
        have HCa : Hid (∀ k, gW s g ca f k = true → gW s g c f k = true) := Lib.hid fun k h => calm_goes hRu.2.1.2 hRu.2.2.1 (by omega) h
        go_wp2_with fail
        refine calls_after (HR1.out _) ?_
        intro x6
        go_wp2
        go_loopw [14] (fun i wr => ∃ k : Nat, k ≤ n ∧ i = .int .i64 k ∧ ∃ x : After X, wr = x.w) (fun i _ => n - (intOf i).toNat)
        case atStart => exact ⟨0, by omega, rfl, x6, rfl⟩
        case round =>
          obtain ⟨k, hkk, rfl, x7, rfl⟩ := hrel
          by_cases hlt : k < n
          · have hlti : (k : Int) < (n : Int) := by omega
            have h1 := HGa.out k x7.w hlt (hBX.out.trans (x7.out.mono hBX.out.size))
            have h1 := Lib.hid h1
            have h2 := Lib.hid (fun W hW => HGb.out k W hlt hW)
            have h3 := Lib.hid (HCa.out k)
            have hBX2 := hBX.out
            generalize gW s g ca f k = z1 at *
            generalize gW s g c f k = z2 at *
            cases z1
            · go_wp2_with fail
              refine calls_after2 h1.out ?_
              intro x8
              go_wp2_with fail
              refine calls_after2 (h2.out _ (by (repeat' (first | (with_reducible exact Below.refl _ _) | (with_reducible assumption) | (with_reducible refine Below.alloc ?_ ?_ _) | (with_reducible refine Below.drew ?_) | (with_reducible refine below_drewN ?_ _) | (with_reducible refine Below.setCell ?_ ?_ _) | (with_reducible refine below_after ?_ ?_ _) | (with_reducible refine below_set ?_) | (with_reducible refine After.size_le _ ?_) | (with_reducible refine size_alloc_le ?_) | (with_reducible refine size_set_le ?_) | (with_reducible refine size_drewN_le ?_) | go_size)))) ?_
              intro x9
              go_wp2
              go_roundw
              case rel => exact ⟨k + 1, by omega, by go_num, x9, rfl⟩
              case measure => simp [intOf]; omega
            · obtain rfl := h3.out rfl
              go_wp2_with fail
              refine calls_after2 h1.out ?_
              intro x8
              go_wp2_with fail
              refine calls_after2 (h2.out _ (by (repeat' (first | (with_reducible exact Below.refl _ _) | (with_reducible assumption) | (with_reducible refine Below.alloc ?_ ?_ _) | (with_reducible refine Below.drew ?_) | (with_reducible refine below_drewN ?_ _) | (with_reducible refine Below.setCell ?_ ?_ _) | (with_reducible refine below_after ?_ ?_ _) | (with_reducible refine below_set ?_) | (with_reducible refine After.size_le _ ?_) | (with_reducible refine size_alloc_le ?_) | (with_reducible refine size_set_le ?_) | (with_reducible refine size_drewN_le ?_) | go_size)))) ?_
              intro x9
              go_wp2
              go_roundw
              case rel => exact ⟨k + 1, by omega, by go_num, x9, rfl⟩
              case measure => simp [intOf]; omega
          · obtain rfl : k = n := by omega
            have hBX2 := hBX.out
            go_wp2
            go_ret
            exact ⟨rfl, by (repeat' (first | (with_reducible exact Below.refl _ _) | (with_reducible assumption) | (with_reducible refine Below.alloc ?_ ?_ _) | (with_reducible refine Below.drew ?_) | (with_reducible refine below_drewN ?_ _) | (with_reducible refine Below.setCell ?_ ?_ _) | (with_reducible refine below_after ?_ ?_ _) | (with_reducible refine below_set ?_) | (with_reducible refine After.size_le _ ?_) | (with_reducible refine size_alloc_le ?_) | (with_reducible refine size_set_le ?_) | (with_reducible refine size_drewN_le ?_) | go_size))⟩
      · have HR1 : Hid (∀ W, Calls Tryd.prog 17 #[.agg #[.int .i64 s, .int .i64 g, .int .i64 ca]] W fun e w' => e = .returned (.bool false) ∧ Below W.heap.size W w') := Lib.hid fun W => by
          have := HR.out W
          rw [decide_eq_false hru] at this
          exact this
        have hBX2 := hBX.out
        go_wp2_with fail
        refine calls_after (HR1.out _) ?_
        intro x6
        go_wp2
        go_ret
        exact ⟨rfl, by (repeat' (first | (with_reducible exact Below.refl _ _) | (with_reducible assumption) | (with_reducible refine Below.alloc ?_ ?_ _) | (with_reducible refine Below.drew ?_) | (with_reducible refine below_drewN ?_ _) | (with_reducible refine Below.setCell ?_ ?_ _) | (with_reducible refine below_after ?_ ?_ _) | (with_reducible refine below_set ?_) | (with_reducible refine After.size_le _ ?_) | (with_reducible refine size_alloc_le ?_) | (with_reducible refine size_set_le ?_) | (with_reducible refine size_drewN_le ?_) | go_size))⟩
  · have hE1 : E' = 1 := by rw [HE.out, if_neg hk']
    subst hE1
    go_enter Tryd.func5, Tryd.ntmps5
    go_wp2_with fail
    refine calls_after (HAw.out _ (by (repeat' (first | (with_reducible exact Below.refl _ _) | (with_reducible assumption) | (with_reducible refine Below.alloc ?_ ?_ _) | (with_reducible refine Below.drew ?_) | (with_reducible refine below_drewN ?_ _) | (with_reducible refine Below.setCell ?_ ?_ _) | (with_reducible refine below_after ?_ ?_ _) | (with_reducible refine below_set ?_) | (with_reducible refine After.size_le _ ?_) | (with_reducible refine size_alloc_le ?_) | (with_reducible refine size_set_le ?_) | (with_reducible refine size_drewN_le ?_) | go_size)))) ?_
    intro x1
    have hB1 := Lib.hid (show Below w.heap.size w x1.w by (repeat' (first | (with_reducible exact Below.refl _ _) | (with_reducible assumption) | (with_reducible refine Below.alloc ?_ ?_ _) | (with_reducible refine Below.drew ?_) | (with_reducible refine below_drewN ?_ _) | (with_reducible refine Below.setCell ?_ ?_ _) | (with_reducible refine below_after ?_ ?_ _) | (with_reducible refine below_set ?_) | (with_reducible refine After.size_le _ ?_) | (with_reducible refine size_alloc_le ?_) | (with_reducible refine size_set_le ?_) | (with_reducible refine size_drewN_le ?_) | go_size)))
    have r1 : Hid (RuAt x1.w w.heap.size s g c) := Lib.hid (RuAt.on (W := w.alloc (.cells #[.int .i64 s, .int .i64 g, .int .i64 c] 23)) ⟨by simp [go_sem], by simp [go_sem], by simp [go_sem], fun o => by simp [go_sem]⟩ x1.out)
    go_wp2_with fail
    refine (P1.out _ hB1.out).mono ?_
    rintro e w2 ⟨⟨v, rfl, hv⟩, hb2⟩
    have hv2 := Lib.hid hv.in
    have hB2 := Lib.hid (hB1.out.trans (hb2.mono hB1.out.size))
    have r2 := Lib.hid (r1.out.on hb2)
    have hs2 := hB2.out.size
    obtain ⟨q0, q1, q2, qf⟩ := r2.out
    have hlt2 : w.heap.size < w2.heap.size := World.block_lt_of_cell? w2 _ q0
    clear hv hb2 r1 hB1 HAw P1
    go_wp2_with fail
    have bA : Below w2.heap.size w2 (w2.alloc (.cells #[.int .i64 st, .int .i64 g, .int .i64 c] 23)) := (Below.refl _ w2).alloc (Nat.le_refl _) _
    refine (P2.out _ (hB2.out.trans (bA.mono hs2))).mono ?_
    rintro e w4 ⟨⟨v', rfl, hv'⟩, hb4⟩
    have hv4' := Lib.hid hv'.in
    have b24 := bA.trans (hb4.mono (by simp))
    have hv4 := Lib.hid (hv2.out.on b24)
    have hB4 := Lib.hid (hB2.out.trans (b24.mono hs2))
    have r4 := Lib.hid (r2.out.on b24)
    have s4 : Hid (RuAt w4 w2.heap.size st g c) := Lib.hid (RuAt.on (W := w2.alloc (.cells #[.int .i64 st, .int .i64 g, .int .i64 c] 23)) ⟨by simp [go_sem], by simp [go_sem], by simp [go_sem], fun o => by simp [go_sem]⟩ hb4)
    have hs4 := hb4.size
    simp only [World.size_alloc] at hs4
    clear hv' hb4 b24 bA hv2 q0 q1 q2 qf r2 P2 hB2
    have hne : w2.heap.size ≠ w.heap.size := by omega
    have hBw : w.heap.size ≤ w2.heap.size := by omega
    generalize w2.heap.size = B at *
    obtain ⟨q0, q1, q2, qf⟩ := r4.out
    have l4 : w.heap.size < w4.heap.size := by omega
    go_wp2_with fail
    refine wp_region_after (by kernel_rfl) (by kernel_rfl) ?_; (repeat (first | go_big_quiet_step ((fail)) | (refine wpQuiet_step (fun K hK => ?_); go_simp; first | (refine hK _ ?_; clear hK K) | (apply Exists.intro; refine ⟨fun x => ?_, hK _ ?_⟩; (fail); clear hK K)))); refine wpQuiet_nil ?_
    intro y
    have r5 := Lib.hid (r4.out.on y.out)
    have s5 := Lib.hid (s4.out.on y.out)
    have hB5 := Lib.hid (hB4.out.trans (y.out.mono hB4.out.size))
    have hs5 := y.out.size
    obtain ⟨q0, q1, q2, qf⟩ := r5.out
    obtain ⟨p0, p1, p2, pf⟩ := s5.out
    have pf0 := pf 0
    have pf1 := pf 1
    have pf2 := pf 2
    have l5 : w.heap.size < y.w.heap.size := by omega
    generalize y.w = Y at *
    clear r4 s4 hv4 hv4' hB4
    go_upto_region 15 with (fail)
    have rX := Lib.hid (ru_other r5.out (B := B) (fun h => hne h.symm) s g c ca)
    have sX := Lib.hid (ru_store s5.out s g c ca)
    have hBX : Hid (Below w.heap.size w ((((Y.setCell ⟨B, 0, none⟩ (.int .i64 s)).setCell ⟨B, 1, none⟩ (.int .i64 g)).setCell ⟨B, 2, none⟩ (.int .i64 c)).setCell ⟨B, 2, none⟩ (.int .i64 ca))) := Lib.hid ((((hB5.out.setCell (p := ⟨B, 0, none⟩) hBw _).setCell (p := ⟨B, 1, none⟩) hBw _).setCell (p := ⟨B, 2, none⟩) hBw _).setCell (p := ⟨B, 2, none⟩) hBw _)
    have hsX : ((((Y.setCell ⟨B, 0, none⟩ (.int .i64 s)).setCell ⟨B, 1, none⟩ (.int .i64 g)).setCell ⟨B, 2, none⟩ (.int .i64 c)).setCell ⟨B, 2, none⟩ (.int .i64 ca)).heap.size = Y.heap.size := by simp
    have hBY : B < Y.heap.size := World.block_lt_of_cell? Y _ p0
    generalize ((((Y.setCell ⟨B, 0, none⟩ (.int .i64 s)).setCell ⟨B, 1, none⟩ (.int .i64 g)).setCell ⟨B, 2, none⟩ (.int .i64 c)).setCell ⟨B, 2, none⟩ (.int .i64 ca)) = X at *
    clear q0 q1 q2 qf p0 p1 p2 pf pf0 pf1 pf2 r5 s5 hB5
    obtain ⟨q0, q1, q2, qf⟩ := rX.out
    obtain ⟨p0, p1, p2, pf⟩ := sX.out
    have lX : w.heap.size < X.heap.size := by omega
    have mX : B < X.heap.size := by omega
    by_cases hca : ca < c
    · have hca' : decide (ca < c) = true := decide_eq_true hca
      go_wp2
      go_ret
      exact ⟨rfl, hBX.out⟩
    have hca' : decide (ca < c) = false := decide_eq_false hca
    by_cases hru : GoodRu s g ca
    · have HR1 : Hid (∀ W, Calls Tryd.prog 17 #[.agg #[.int .i64 s, .int .i64 g, .int .i64 ca]] W fun e w' => e = .returned (.bool true) ∧ Below W.heap.size W w') := Lib.hid fun W => by
        have := HR.out W
        rw [decide_eq_true hru] at this
        exact this
      have hk2 : AskB s g ca n f = true := by unfold AskB; rw [decide_eq_true hGG, decide_eq_true hru]; rfl
      have HGa : Hid (∀ (k : Nat) W, k < n → Below w.heap.size w W → Calls Tryd.prog 19 #[.agg #[.int .i64 s, .int .i64 g, .int .i64 ca], .slice a n cap, .int .i64 k] W fun e w' => e = .returned (.tuple #[.bool (gW s g ca f k), .int .i64 0]) ∧ Below W.heap.size W w') := Lib.hid fun k W hkn hW => by
        have h := HG1.out k W hW
        unfold goB goE at h
        have hb : Btw (k : Int) 0 ((n : Int) - 1) := by unfold Btw; omega
        rw [hk2, decide_eq_true hb, if_pos hb] at h
        simpa using h
      have HGb : Hid (∀ (k : Nat) W, k < n → Below w.heap.size w W → Calls Tryd.prog 19 #[.agg #[.int .i64 s, .int .i64 g, .int .i64 c], .slice a n cap, .int .i64 k] W fun e w' => e = .returned (.tuple #[.bool (gW s g c f k), .int .i64 0]) ∧ Below W.heap.size W w') := Lib.hid fun k W hkn hW => by
        have h := HG2.out k W hW
        unfold goB goE at h
        have hb : Btw (k : Int) 0 ((n : Int) - 1) := by unfold Btw; omega
        rw [hk, decide_eq_true hb, if_pos hb] at h
        simpa using h
      have HCa : Hid (∀ k, gW s g ca f k = true → gW s g c f k = true) := Lib.hid fun k h => calm_goes hRu.2.1.2 hRu.2.2.1 (by omega) h
      go_wp2_with fail
      refine calls_after (HR1.out _) ?_
      intro x6
      go_wp2
      go_loopw [14] (fun i wr => ∃ k : Nat, k ≤ n ∧ i = .int .i64 k ∧ ∃ x : After X, wr = x.w) (fun i _ => n - (intOf i).toNat)
      case atStart => exact ⟨0, by omega, rfl, x6, rfl⟩
      case round =>
        obtain ⟨k, hkk, rfl, x7, rfl⟩ := hrel
        by_cases hlt : k < n
        · have hlti : (k : Int) < (n : Int) := by omega
          have h1 := HGa.out k x7.w hlt (hBX.out.trans (x7.out.mono hBX.out.size))
          have h1 := Lib.hid h1
          have h2 := Lib.hid (fun W hW => HGb.out k W hlt hW)
          have h3 := Lib.hid (HCa.out k)
          have hBX2 := hBX.out
          generalize gW s g ca f k = z1 at *
          generalize gW s g c f k = z2 at *
          cases z1
          · go_wp2_with fail
            refine calls_after2 h1.out ?_
            intro x8
            go_wp2_with fail
            refine calls_after2 (h2.out _ (by (repeat' (first | (with_reducible exact Below.refl _ _) | (with_reducible assumption) | (with_reducible refine Below.alloc ?_ ?_ _) | (with_reducible refine Below.drew ?_) | (with_reducible refine below_drewN ?_ _) | (with_reducible refine Below.setCell ?_ ?_ _) | (with_reducible refine below_after ?_ ?_ _) | (with_reducible refine below_set ?_) | (with_reducible refine After.size_le _ ?_) | (with_reducible refine size_alloc_le ?_) | (with_reducible refine size_set_le ?_) | (with_reducible refine size_drewN_le ?_) | go_size)))) ?_
            intro x9
            go_wp2
            go_roundw
            case rel => exact ⟨k + 1, by omega, by go_num, x9, rfl⟩
            case measure => simp [intOf]; omega
          · obtain rfl := h3.out rfl
            go_wp2_with fail
            refine calls_after2 h1.out ?_
            intro x8
            go_wp2_with fail
            refine calls_after2 (h2.out _ (by (repeat' (first | (with_reducible exact Below.refl _ _) | (with_reducible assumption) | (with_reducible refine Below.alloc ?_ ?_ _) | (with_reducible refine Below.drew ?_) | (with_reducible refine below_drewN ?_ _) | (with_reducible refine Below.setCell ?_ ?_ _) | (with_reducible refine below_after ?_ ?_ _) | (with_reducible refine below_set ?_) | (with_reducible refine After.size_le _ ?_) | (with_reducible refine size_alloc_le ?_) | (with_reducible refine size_set_le ?_) | (with_reducible refine size_drewN_le ?_) | go_size)))) ?_
            intro x9
            go_wp2
            go_roundw
            case rel => exact ⟨k + 1, by omega, by go_num, x9, rfl⟩
            case measure => simp [intOf]; omega
        · obtain rfl : k = n := by omega
          have hBX2 := hBX.out
          go_wp2
          go_ret
          exact ⟨rfl, by (repeat' (first | (with_reducible exact Below.refl _ _) | (with_reducible assumption) | (with_reducible refine Below.alloc ?_ ?_ _) | (with_reducible refine Below.drew ?_) | (with_reducible refine below_drewN ?_ _) | (with_reducible refine Below.setCell ?_ ?_ _) | (with_reducible refine below_after ?_ ?_ _) | (with_reducible refine below_set ?_) | (with_reducible refine After.size_le _ ?_) | (with_reducible refine size_alloc_le ?_) | (with_reducible refine size_set_le ?_) | (with_reducible refine size_drewN_le ?_) | go_size))⟩
    · have HR1 : Hid (∀ W, Calls Tryd.prog 17 #[.agg #[.int .i64 s, .int .i64 g, .int .i64 ca]] W fun e w' => e = .returned (.bool false) ∧ Below W.heap.size W w') := Lib.hid fun W => by
        have := HR.out W
        rw [decide_eq_false hru] at this
        exact this
      have hBX2 := hBX.out
      go_wp2_with fail
      refine calls_after (HR1.out _) ?_
      intro x6
      go_wp2
      go_ret
      exact ⟨rfl, by (repeat' (first | (with_reducible exact Below.refl _ _) | (with_reducible assumption) | (with_reducible refine Below.alloc ?_ ?_ _) | (with_reducible refine Below.drew ?_) | (with_reducible refine below_drewN ?_ _) | (with_reducible refine Below.setCell ?_ ?_ _) | (with_reducible refine below_after ?_ ?_ _) | (with_reducible refine below_set ?_) | (with_reducible refine After.size_le _ ?_) | (with_reducible refine size_alloc_le ?_) | (with_reducible refine size_set_le ?_) | (with_reducible refine size_drewN_le ?_) | go_size))⟩
end Go.Proofs.YtfmoedlnjlkiiaaDoor
