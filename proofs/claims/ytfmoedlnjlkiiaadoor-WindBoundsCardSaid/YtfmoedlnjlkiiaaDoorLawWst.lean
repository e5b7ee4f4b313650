/- WindStops: the law's walk. -/
import Derived.Test.YtfmoedlnjlkiiaaDoorWda
import Derived.Test.YtfmoedlnjlkiiaaDoorWdo
import Derived.Test.YtfmoedlnjlkiiaaDoorWdg
namespace Go.Proofs.YtfmoedlnjlkiiaaDoor
open Go.RowKit
attribute [local go_sem] After.cell After.frozen After.lt After.le After.ne After.ne' After.set_eq After.size_set After.lt_add
attribute [local go_sem 10000] neq_span

theorem after_ofw {W W' : World} (h : Below W.heap.size W W') : ∃ y : After W, W' = y.w := ⟨⟨W', h⟩, rfl⟩
def Many (n : Nat) : Prop := (300 < n ∧ n ≤ 2000) ∨ 2050 < n
instance (n : Nat) : Decidable (Many n) := by unfold Many; infer_instance
theorem many_any (a : Option Addr) (n cap : Nat) (w : World) :
    Calls Tryd.prog 11 #[.slice a n cap] w fun e w' => e = .returned (.bool (decide (Many n))) ∧ w = w' := by
  by_cases h1 : (300 : Int) < n
  · by_cases h2 : (n : Int) ≤ 2000
    · go_enter Tryd.func11, Tryd.ntmps11
      go_wp2
      go_ret
      exact ⟨ret_dec (by unfold Many; simp; omega), rfl⟩
    · have h2' : decide ((n : Int) ≤ 2000) = false := decide_eq_false h2
      go_enter Tryd.func11, Tryd.ntmps11
      go_wp2
      go_ret
      exact ⟨ret_dec (by unfold Many; simp; omega), rfl⟩
  · have h1' : decide ((300 : Int) < n) = false := decide_eq_false h1
    go_enter Tryd.func11, Tryd.ntmps11
    go_wp2
    go_ret
    exact ⟨ret_dec (by unfold Many; simp; omega), rfl⟩

set_option maxRecDepth 100000 in
set_option maxHeartbeats 4000000 in
theorem windStops_any (s g c : Int) (a : Option Addr) (n cap : Nat) (f : Nat → Int) (m fr to : Int) (w : World) (hA : IAt w a n f) (hcap : n ≤ 9223372036854775807) (hS : Stw w) :
    Calls Tryd.prog 3 #[.agg #[.int .i64 s, .int .i64 g, .int .i64 c], .slice a n cap, .int .i64 m, .int .i64 fr, .int .i64 to] w fun e w' => e = .returned (.bool true) ∧ Below w.heap.size w w' := by
  have HAw := Lib.hid (fun W (hW : Below w.heap.size w W) => awake_any W (hS.on hW))
  have HM := Lib.hid (fun W => many_any a n cap W)
  have hsl : (stL s g c n f).length ≤ 2000 := by
    unfold stL
    split
    · rename_i hk
      obtain ⟨_, hn, _⟩ := ask_c hk
      exact Nat.le_trans (spS_len _) (Nat.le_trans (fl_len _ _) hn)
    · simp
  have P1 := Lib.hid (fun W (hW : Below w.heap.size w W) => stops_any s g c a n cap f W (hA.on hW))
  have R1 := Lib.hid (fun W (hW : Below w.heap.size w W) => rstops_any s g c a n cap f W (hA.on hW) hcap)
  have P2 := Lib.hid (fun W (hW : Below w.heap.size w W) => validGusts_any a n cap f W (hA.on hW))
  have R2 := Lib.hid (fun W (hW : Below w.heap.size w W) => rvalidGusts_any a n cap f W (hA.on hW) hcap)
  have P3 := Lib.hid (fun W => validRule_any s g c W)
  have R3 := Lib.hid (fun W => rvalidRule_any s g c W)
  have P4 := Lib.hid (fun W (hW : Below w.heap.size w W) => goes_say s g c a n cap f m W (hA.on hW))
  have R4 := Lib.hid (fun W (hW : Below w.heap.size w W) => rgoes_say s g c a n cap f m W (hA.on hW) hcap)
  have P5 := Lib.hid (fun W (hW : Below w.heap.size w W) => minutes_say s g c a n cap f fr to W (hA.on hW))
  have R5 := Lib.hid (fun W (hW : Below w.heap.size w W) => rminutes_say s g c a n cap f fr to W (hA.on hW) hcap)
  have P6 := Lib.hid (fun W (hW : Below w.heap.size w W) => longest_say s g c a n cap f W (hA.on hW))
  have R6 := Lib.hid (fun W (hW : Below w.heap.size w W) => rlongest_say s g c a n cap f W (hA.on hW) hcap)
  have P7 := Lib.hid (fun W (hW : Below w.heap.size w W) => resumes_say s g c a n cap f W (hA.on hW))
  have R7 := Lib.hid (fun W (hW : Below w.heap.size w W) => rresumes_say s g c a n cap f W (hA.on hW) hcap)
  unfold spV at P6 R6
  clear hA hS
  generalize decide (Many n) = mb at *
  generalize decide (GoodG n f) = b1 at *
  generalize decide (GoodRu s g c) = b2 at *
  generalize stL s g c n f = L at *
  generalize asE s g c n f = e1 at *
  generalize goB s g c n f m = b4 at *
  generalize goE s g c n f m = e4 at *
  generalize miN s g c n f fr to = n5 at *
  generalize miE s g c n f fr to = e5 at *
  generalize loB s g c n f = p6 at *
  generalize loE s g c n f = e6 at *
  generalize reN s g c n f = n7 at *
  generalize reE s g c n f = e7 at *
  obtain ⟨p61, p62⟩ := p6
  dsimp only at P6 R6
  cases mb
  case true =>
    go_enter Tryd.func3, Tryd.ntmps3
    go_wp2_with fail
    refine calls_after (HAw.out _ (by (repeat' (first | (with_reducible exact Below.refl _ _) | (with_reducible assumption) | (with_reducible refine Below.alloc ?_ ?_ _) | (with_reducible refine Below.drew ?_) | (with_reducible refine below_drewN ?_ _) | (with_reducible refine Below.setCell ?_ ?_ _) | (with_reducible refine below_after ?_ ?_ _) | (with_reducible refine below_set ?_) | (with_reducible refine After.size_le _ ?_) | (with_reducible refine size_alloc_le ?_) | (with_reducible refine size_set_le ?_) | (with_reducible refine size_drewN_le ?_) | go_size)))) ?_
    intro x1
    go_wp2_with fail
    refine (HM.out _).mono ?_
    rintro e w1 ⟨rfl, rfl⟩
    go_wp2
    go_ret
    exact ⟨rfl, by (repeat' (first | (with_reducible exact Below.refl _ _) | (with_reducible assumption) | (with_reducible refine Below.alloc ?_ ?_ _) | (with_reducible refine Below.drew ?_) | (with_reducible refine below_drewN ?_ _) | (with_reducible refine Below.setCell ?_ ?_ _) | (with_reducible refine below_after ?_ ?_ _) | (with_reducible refine below_set ?_) | (with_reducible refine After.size_le _ ?_) | (with_reducible refine size_alloc_le ?_) | (with_reducible refine size_set_le ?_) | (with_reducible refine size_drewN_le ?_) | go_size))⟩
  case false =>
    go_enter Tryd.func3, Tryd.ntmps3
    go_wp2_with fail
    refine calls_after (HAw.out _ (by (repeat' (first | (with_reducible exact Below.refl _ _) | (with_reducible assumption) | (with_reducible refine Below.alloc ?_ ?_ _) | (with_reducible refine Below.drew ?_) | (with_reducible refine below_drewN ?_ _) | (with_reducible refine Below.setCell ?_ ?_ _) | (with_reducible refine below_after ?_ ?_ _) | (with_reducible refine below_set ?_) | (with_reducible refine After.size_le _ ?_) | (with_reducible refine size_alloc_le ?_) | (with_reducible refine size_set_le ?_) | (with_reducible refine size_drewN_le ?_) | go_size)))) ?_
    intro x1
    go_wp2_with fail
    refine (HM.out _).mono ?_
    rintro e w1 ⟨rfl, rfl⟩
    go_wp2_with fail
    refine (P1.out _ (by (repeat' (first | (with_reducible exact Below.refl _ _) | (with_reducible assumption) | (with_reducible refine Below.alloc ?_ ?_ _) | (with_reducible refine Below.drew ?_) | (with_reducible refine below_drewN ?_ _) | (with_reducible refine Below.setCell ?_ ?_ _) | (with_reducible refine below_after ?_ ?_ _) | (with_reducible refine below_set ?_) | (with_reducible refine After.size_le _ ?_) | (with_reducible refine size_alloc_le ?_) | (with_reducible refine size_set_le ?_) | (with_reducible refine size_drewN_le ?_) | go_size)))).mono ?_
    rintro e w2 ⟨⟨v, rfl, hv⟩, hb2⟩
    have hv' := Lib.hid hv.in
    have hB1 : Below w.heap.size w x1.w := by (repeat' (first | (with_reducible exact Below.refl _ _) | (with_reducible assumption) | (with_reducible refine Below.alloc ?_ ?_ _) | (with_reducible refine Below.drew ?_) | (with_reducible refine below_drewN ?_ _) | (with_reducible refine Below.setCell ?_ ?_ _) | (with_reducible refine below_after ?_ ?_ _) | (with_reducible refine below_set ?_) | (with_reducible refine After.size_le _ ?_) | (with_reducible refine size_alloc_le ?_) | (with_reducible refine size_set_le ?_) | (with_reducible refine size_drewN_le ?_) | go_size))
    have hB2 := Lib.hid (hB1.trans (hb2.mono hB1.size))
    obtain ⟨x2, rfl⟩ := after_ofw (x1.out.trans (hb2.mono x1.out.size))
    clear hv hb2 hB1
    go_wp2_with fail
    refine (R1.out _ hB2.out).mono ?_
    rintro e w3 ⟨⟨v', rfl, hv2⟩, hb3⟩
    have HSm : Hid (∀ W, Below w3.heap.size w3 W → Calls Tryd.prog 18 #[v, v'] W fun e w' => e = .returned (.bool true) ∧ Below W.heap.size W w') := Lib.hid fun W hW => sameSpans_any ((hv'.out.on hb3).on hW) (hv2.in.on hW) (by omega)
    have hB3 := Lib.hid (hB2.out.trans (hb3.mono hB2.out.size))
    obtain ⟨x3, rfl⟩ := after_ofw (x2.out.trans (hb3.mono x2.out.size))
    clear hv2 hb3 hv' hB2 P1 R1 HM HAw
    go_wp2_with fail
    refine wp_region_after (by kernel_rfl) (by kernel_rfl) ?_; (repeat (first | go_big_quiet_step ((first | (go_at_call 14; exact quiet_after (P2.out _ (by (repeat' (first | (with_reducible exact Below.refl _ _) | (with_reducible assumption) | (with_reducible refine Below.alloc ?_ ?_ _) | (with_reducible refine Below.drew ?_) | (with_reducible refine below_drewN ?_ _) | (with_reducible refine Below.setCell ?_ ?_ _) | (with_reducible refine below_after ?_ ?_ _) | (with_reducible refine below_set ?_) | (with_reducible refine After.size_le _ ?_) | (with_reducible refine size_alloc_le ?_) | (with_reducible refine size_set_le ?_) | (with_reducible refine size_drewN_le ?_) | go_size))))) | (go_at_call 15; exact quiet_after (R2.out _ (by (repeat' (first | (with_reducible exact Below.refl _ _) | (with_reducible assumption) | (with_reducible refine Below.alloc ?_ ?_ _) | (with_reducible refine Below.drew ?_) | (with_reducible refine below_drewN ?_ _) | (with_reducible refine Below.setCell ?_ ?_ _) | (with_reducible refine below_after ?_ ?_ _) | (with_reducible refine below_set ?_) | (with_reducible refine After.size_le _ ?_) | (with_reducible refine size_alloc_le ?_) | (with_reducible refine size_set_le ?_) | (with_reducible refine size_drewN_le ?_) | go_size))))) | (go_at_call 16; exact quiet_after (P3.out _)) | (go_at_call 17; exact quiet_after (R3.out _)) | (go_at_call 18; exact quiet_after (HSm.out _ (by (repeat' (first | (with_reducible exact Nat.le_refl _) | (with_reducible exact Below.refl _ _) | (with_reducible assumption) | (with_reducible refine Below.alloc ?_ ?_ _) | (with_reducible refine Below.drew ?_) | (with_reducible refine below_drewN ?_ _) | (with_reducible refine Below.setCell ?_ ?_ _) | (with_reducible refine below_after ?_ ?_ _) | (with_reducible refine below_set ?_) | (with_reducible refine After.size_le _ ?_) | (with_reducible refine size_alloc_le ?_) | (with_reducible refine size_set_le ?_) | (with_reducible refine size_drewN_le ?_) | go_size))))))) | (refine wpQuiet_step (fun K hK => ?_); go_simp; first | (refine hK _ ?_; clear hK K) | (apply Exists.intro; refine ⟨fun x => ?_, hK _ ?_⟩; (first | (go_at_call 14; exact quiet_after (P2.out _ (by (repeat' (first | (with_reducible exact Below.refl _ _) | (with_reducible assumption) | (with_reducible refine Below.alloc ?_ ?_ _) | (with_reducible refine Below.drew ?_) | (with_reducible refine below_drewN ?_ _) | (with_reducible refine Below.setCell ?_ ?_ _) | (with_reducible refine below_after ?_ ?_ _) | (with_reducible refine below_set ?_) | (with_reducible refine After.size_le _ ?_) | (with_reducible refine size_alloc_le ?_) | (with_reducible refine size_set_le ?_) | (with_reducible refine size_drewN_le ?_) | go_size))))) | (go_at_call 15; exact quiet_after (R2.out _ (by (repeat' (first | (with_reducible exact Below.refl _ _) | (with_reducible assumption) | (with_reducible refine Below.alloc ?_ ?_ _) | (with_reducible refine Below.drew ?_) | (with_reducible refine below_drewN ?_ _) | (with_reducible refine Below.setCell ?_ ?_ _) | (with_reducible refine below_after ?_ ?_ _) | (with_reducible refine below_set ?_) | (with_reducible refine After.size_le _ ?_) | (with_reducible refine size_alloc_le ?_) | (with_reducible refine size_set_le ?_) | (with_reducible refine size_drewN_le ?_) | go_size))))) | (go_at_call 16; exact quiet_after (P3.out _)) | (go_at_call 17; exact quiet_after (R3.out _)) | (go_at_call 18; exact quiet_after (HSm.out _ (by (repeat' (first | (with_reducible exact Nat.le_refl _) | (with_reducible exact Below.refl _ _) | (with_reducible assumption) | (with_reducible refine Below.alloc ?_ ?_ _) | (with_reducible refine Below.drew ?_) | (with_reducible refine below_drewN ?_ _) | (with_reducible refine Below.setCell ?_ ?_ _) | (with_reducible refine below_after ?_ ?_ _) | (with_reducible refine below_set ?_) | (with_reducible refine After.size_le _ ?_) | (with_reducible refine size_alloc_le ?_) | (with_reducible refine size_set_le ?_) | (with_reducible refine size_drewN_le ?_) | go_size)))))); clear hK K)))); refine wpQuiet_nil ?_
    intro x4
    have hb4 := x4.out
    generalize x4.w = W4 at *
    obtain ⟨x5, rfl⟩ := after_ofw (x3.out.trans (hb4.mono x3.out.size))
    have hB5 := Lib.hid (hB3.out.trans (hb4.mono hB3.out.size))
    clear hb4 hB3 HSm P2 R2 P3 R3
    go_wp2_with fail
    refine calls_after2 (P4.out _ hB5.out) ?_
    intro x6
    go_wp2_with fail
    refine calls_after2 (R4.out _ (by (repeat' (first | (with_reducible exact Below.refl _ _) | (with_reducible assumption) | (with_reducible refine Below.alloc ?_ ?_ _) | (with_reducible refine Below.drew ?_) | (with_reducible refine below_drewN ?_ _) | (with_reducible refine Below.setCell ?_ ?_ _) | (with_reducible refine below_after ?_ ?_ _) | (with_reducible refine below_set ?_) | (with_reducible refine After.size_le _ ?_) | (with_reducible refine size_alloc_le ?_) | (with_reducible refine size_set_le ?_) | (with_reducible refine size_drewN_le ?_) | go_size)))) ?_
    intro x7
    clear P4 R4
    go_wp2_with fail
    refine calls_after2 (P5.out _ (by (repeat' (first | (with_reducible exact Below.refl _ _) | (with_reducible assumption) | (with_reducible refine Below.alloc ?_ ?_ _) | (with_reducible refine Below.drew ?_) | (with_reducible refine below_drewN ?_ _) | (with_reducible refine Below.setCell ?_ ?_ _) | (with_reducible refine below_after ?_ ?_ _) | (with_reducible refine below_set ?_) | (with_reducible refine After.size_le _ ?_) | (with_reducible refine size_alloc_le ?_) | (with_reducible refine size_set_le ?_) | (with_reducible refine size_drewN_le ?_) | go_size)))) ?_
    intro x8
    go_wp2_with fail
    refine calls_after2 (R5.out _ (by (repeat' (first | (with_reducible exact Below.refl _ _) | (with_reducible assumption) | (with_reducible refine Below.alloc ?_ ?_ _) | (with_reducible refine Below.drew ?_) | (with_reducible refine below_drewN ?_ _) | (with_reducible refine Below.setCell ?_ ?_ _) | (with_reducible refine below_after ?_ ?_ _) | (with_reducible refine below_set ?_) | (with_reducible refine After.size_le _ ?_) | (with_reducible refine size_alloc_le ?_) | (with_reducible refine size_set_le ?_) | (with_reducible refine size_drewN_le ?_) | go_size)))) ?_
    intro x9
    clear P5 R5
    go_wp2_with fail
    refine calls_after2 (P6.out _ (by (repeat' (first | (with_reducible exact Below.refl _ _) | (with_reducible assumption) | (with_reducible refine Below.alloc ?_ ?_ _) | (with_reducible refine Below.drew ?_) | (with_reducible refine below_drewN ?_ _) | (with_reducible refine Below.setCell ?_ ?_ _) | (with_reducible refine below_after ?_ ?_ _) | (with_reducible refine below_set ?_) | (with_reducible refine After.size_le _ ?_) | (with_reducible refine size_alloc_le ?_) | (with_reducible refine size_set_le ?_) | (with_reducible refine size_drewN_le ?_) | go_size)))) ?_
    intro x10
    have hB10 : Below w.heap.size w x10.w := by (repeat' (first | (with_reducible exact Below.refl _ _) | (with_reducible assumption) | (with_reducible refine Below.alloc ?_ ?_ _) | (with_reducible refine Below.drew ?_) | (with_reducible refine below_drewN ?_ _) | (with_reducible refine Below.setCell ?_ ?_ _) | (with_reducible refine below_after ?_ ?_ _) | (with_reducible refine below_set ?_) | (with_reducible refine After.size_le _ ?_) | (with_reducible refine size_alloc_le ?_) | (with_reducible refine size_set_le ?_) | (with_reducible refine size_drewN_le ?_) | go_size))
    have hB11 := hB10.alloc hB10.size (.cells #[.int .i64 p61, .int .i64 p62] 38)
    have hx10 := x10.out
    clear P6
    go_wp2_with fail
    refine (R6.out _ hB11).mono ?_
    rintro e w11 ⟨rfl, hb11⟩
    have k0 := (hb11.cell (p := ⟨x10.w.heap.size, 0, none⟩) (by simp)).trans (b := _) (c := some (.int .i64 p61)) (by simp [go_sem])
    have k1 := (hb11.cell (p := ⟨x10.w.heap.size, 1, none⟩) (by simp)).trans (b := _) (c := some (.int .i64 p62)) (by simp [go_sem])
    have hB12 := Lib.hid (hB11.trans (hb11.mono hB11.size))
    have hxa := hx10.trans ((Below.alloc (Below.refl _ x10.w) (Nat.le_refl _) (.cells #[.int .i64 p61, .int .i64 p62] 38)).mono hx10.size)
    have hxb := hxa.trans (hb11.mono hxa.size)
    have hs11 := hb11.size
    have hs10 := hx10.size
    simp only [World.size_alloc] at hs11 hs10
    have hlt : x10.w.heap.size < w11.heap.size := by omega
    obtain ⟨x11, rfl⟩ := after_ofw hxb
    clear R6 hb11 hB10 hB11 hx10 hxa hxb
    generalize x10.w.heap.size = B19 at *
    have hne : B19 ≠ w.heap.size := by omega
    go_wp2_with fail
    refine (P7.out _ (by have hB := hB12.out; (repeat' (first | (with_reducible exact Below.refl _ _) | (with_reducible assumption) | (with_reducible refine Below.alloc ?_ ?_ _) | (with_reducible refine Below.drew ?_) | (with_reducible refine below_drewN ?_ _) | (with_reducible refine Below.setCell ?_ ?_ _) | (with_reducible refine below_after ?_ ?_ _) | (with_reducible refine below_set ?_) | (with_reducible refine After.size_le _ ?_) | (with_reducible refine size_alloc_le ?_) | (with_reducible refine size_set_le ?_) | (with_reducible refine size_drewN_le ?_) | go_size)))).mono ?_
    rintro e w12 ⟨rfl, hb12⟩
    have hA11 : Below x11.w.heap.size x11.w (x11.w.alloc (.cells #[.int .i64 p61, .int .i64 p62] 38)) := (Below.refl _ x11.w).alloc (Nat.le_refl _) _
    have hx11 := x11.out
    have hxc := hx11.trans ((hA11.trans (hb12.mono hA11.size)).mono hx11.size)
    have HB14 := Lib.hid (hB12.out.trans ((hA11.trans (hb12.mono hA11.size)).mono hB12.out.size))
    obtain ⟨x12, rfl⟩ := after_ofw hxc
    clear hb12 hA11 hx11 hxc hB12 P7
    go_wp2_with fail
    refine calls_after2 (R7.out _ HB14.out) ?_
    intro x13
    have HB15 := HB14.out
    go_wp2
    go_ret
    exact ⟨rfl, by (repeat' (first | (with_reducible exact Below.refl _ _) | (with_reducible assumption) | (with_reducible refine Below.alloc ?_ ?_ _) | (with_reducible refine Below.drew ?_) | (with_reducible refine below_drewN ?_ _) | (with_reducible refine Below.setCell ?_ ?_ _) | (with_reducible refine below_after ?_ ?_ _) | (with_reducible refine below_set ?_) | (with_reducible refine After.size_le _ ?_) | (with_reducible refine size_alloc_le ?_) | (with_reducible refine size_set_le ?_) | (with_reducible refine size_drewN_le ?_) | go_size))⟩
end Go.Proofs.YtfmoedlnjlkiiaaDoor
