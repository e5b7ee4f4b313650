/- A stack cut, in both programs; a course added: the program. -/
import Derived.Test.YtplhbklfaokjbaaDoorSplitp
namespace Go.Proofs.YtplhbklfaokjbaaDoor
open Go.RowKit
attribute [local go_sem] After.cell After.frozen After.lt After.le After.ne After.ne' After.set_eq After.size_set After.lt_add

set_option maxRecDepth 100000 in
theorem cut_bad (v : Value) (m : Int) (w : World) (ha : CSay w v false) :
    Calls Tryd.prog 45 #[v, .int .i64 m] w fun x w' => x = .returned (.tuple #[.slice none 0 0, .int .i64 1]) ∧ Below w.heap.size w w' := by
  have HA : Hid (∀ W, Below w.heap.size w W → _) := ha
  clear ha
  go_enter Tryd.func45, Tryd.ntmps45
  (go_wp2_with fail); refine calls_after (HA.out _ (by (repeat' (first | (with_reducible exact Below.refl _ _) | (with_reducible assumption) | (with_reducible refine Below.alloc ?_ ?_ _) | (with_reducible refine Below.drew ?_) | (with_reducible refine below_drewN ?_ _) | (with_reducible refine Below.setCell ?_ ?_ _) | (with_reducible refine below_after ?_ ?_ _) | (with_reducible refine below_set ?_) | (with_reducible refine After.size_le _ ?_) | (with_reducible refine size_alloc_le ?_) | (with_reducible refine size_set_le ?_) | (with_reducible refine size_drewN_le ?_) | go_size)))) ?_; intro x1
  go_wp2
  go_returns
  exact ⟨rfl, by (repeat' (first | (with_reducible exact Below.refl _ _) | (with_reducible assumption) | (with_reducible refine Below.alloc ?_ ?_ _) | (with_reducible refine Below.drew ?_) | (with_reducible refine below_drewN ?_ _) | (with_reducible refine Below.setCell ?_ ?_ _) | (with_reducible refine below_after ?_ ?_ _) | (with_reducible refine below_set ?_) | (with_reducible refine After.size_le _ ?_) | (with_reducible refine size_alloc_le ?_) | (with_reducible refine size_set_le ?_) | (with_reducible refine size_drewN_le ?_) | go_size))⟩
set_option maxRecDepth 100000 in
theorem rcut_bad (v : Value) (m : Int) (w : World) (ha : RCSay w v false) :
    Calls Tryd.prog 46 #[v, .int .i64 m] w fun x w' => x = .returned (.tuple #[.slice none 0 0, .int .i64 1]) ∧ Below w.heap.size w w' := by
  have HA : Hid (∀ W, Below w.heap.size w W → _) := ha
  clear ha
  go_enter Tryd.func46, Tryd.ntmps46
  (go_wp2_with fail); refine calls_after (HA.out _ (by (repeat' (first | (with_reducible exact Below.refl _ _) | (with_reducible assumption) | (with_reducible refine Below.alloc ?_ ?_ _) | (with_reducible refine Below.drew ?_) | (with_reducible refine below_drewN ?_ _) | (with_reducible refine Below.setCell ?_ ?_ _) | (with_reducible refine below_after ?_ ?_ _) | (with_reducible refine below_set ?_) | (with_reducible refine After.size_le _ ?_) | (with_reducible refine size_alloc_le ?_) | (with_reducible refine size_set_le ?_) | (with_reducible refine size_drewN_le ?_) | go_size)))) ?_; intro x1
  go_wp2
  go_returns
  exact ⟨rfl, by (repeat' (first | (with_reducible exact Below.refl _ _) | (with_reducible assumption) | (with_reducible refine Below.alloc ?_ ?_ _) | (with_reducible refine Below.drew ?_) | (with_reducible refine below_drewN ?_ _) | (with_reducible refine Below.setCell ?_ ?_ _) | (with_reducible refine below_after ?_ ?_ _) | (with_reducible refine below_set ?_) | (with_reducible refine After.size_le _ ?_) | (with_reducible refine size_alloc_le ?_) | (with_reducible refine size_set_le ?_) | (with_reducible refine size_drewN_le ?_) | go_size))⟩
set_option maxRecDepth 100000 in
theorem cut_far (a : Option Addr) (n cap : Nat) (m : Int) (w : World) (ha : CSay w (.slice a n cap) true) (hm : ¬ Btw m 1 n) :
    Calls Tryd.prog 45 #[.slice a n cap, .int .i64 m] w fun x w' => x = .returned (.tuple #[.slice none 0 0, .int .i64 7]) ∧ Below w.heap.size w w' := by
  have HA : Hid (∀ W, Below w.heap.size w W → _) := ha
  have HB := Lib.hid (between_any m 1 n)
  rw [decide_eq_false hm] at HB
  clear ha hm
  go_enter Tryd.func45, Tryd.ntmps45
  (go_wp2_with fail); refine calls_after (HA.out _ (by (repeat' (first | (with_reducible exact Below.refl _ _) | (with_reducible assumption) | (with_reducible refine Below.alloc ?_ ?_ _) | (with_reducible refine Below.drew ?_) | (with_reducible refine below_drewN ?_ _) | (with_reducible refine Below.setCell ?_ ?_ _) | (with_reducible refine below_after ?_ ?_ _) | (with_reducible refine below_set ?_) | (with_reducible refine After.size_le _ ?_) | (with_reducible refine size_alloc_le ?_) | (with_reducible refine size_set_le ?_) | (with_reducible refine size_drewN_le ?_) | go_size)))) ?_; intro x1
  (go_wp2_with fail); refine calls_after2 (HB.out _) ?_; intro x2
  go_wp2
  go_returns
  exact ⟨rfl, by (repeat' (first | (with_reducible exact Below.refl _ _) | (with_reducible assumption) | (with_reducible refine Below.alloc ?_ ?_ _) | (with_reducible refine Below.drew ?_) | (with_reducible refine below_drewN ?_ _) | (with_reducible refine Below.setCell ?_ ?_ _) | (with_reducible refine below_after ?_ ?_ _) | (with_reducible refine below_set ?_) | (with_reducible refine After.size_le _ ?_) | (with_reducible refine size_alloc_le ?_) | (with_reducible refine size_set_le ?_) | (with_reducible refine size_drewN_le ?_) | go_size))⟩
set_option maxRecDepth 100000 in
theorem rcut_far (a : Option Addr) (n cap : Nat) (m : Int) (w : World) (ha : RCSay w (.slice a n cap) true) (hm : ¬ Btw m 1 n) :
    Calls Tryd.prog 46 #[.slice a n cap, .int .i64 m] w fun x w' => x = .returned (.tuple #[.slice none 0 0, .int .i64 7]) ∧ Below w.heap.size w w' := by
  have HA : Hid (∀ W, Below w.heap.size w W → _) := ha
  have HB := Lib.hid (within_any m 1 n)
  rw [decide_eq_false hm] at HB
  clear ha hm
  go_enter Tryd.func46, Tryd.ntmps46
  (go_wp2_with fail); refine calls_after (HA.out _ (by (repeat' (first | (with_reducible exact Below.refl _ _) | (with_reducible assumption) | (with_reducible refine Below.alloc ?_ ?_ _) | (with_reducible refine Below.drew ?_) | (with_reducible refine below_drewN ?_ _) | (with_reducible refine Below.setCell ?_ ?_ _) | (with_reducible refine below_after ?_ ?_ _) | (with_reducible refine below_set ?_) | (with_reducible refine After.size_le _ ?_) | (with_reducible refine size_alloc_le ?_) | (with_reducible refine size_set_le ?_) | (with_reducible refine size_drewN_le ?_) | go_size)))) ?_; intro x1
  (go_wp2_with fail); refine calls_after2 (HB.out _) ?_; intro x2
  go_wp2
  go_returns
  exact ⟨rfl, by (repeat' (first | (with_reducible exact Below.refl _ _) | (with_reducible assumption) | (with_reducible refine Below.alloc ?_ ?_ _) | (with_reducible refine Below.drew ?_) | (with_reducible refine below_drewN ?_ _) | (with_reducible refine Below.setCell ?_ ?_ _) | (with_reducible refine below_after ?_ ?_ _) | (with_reducible refine below_set ?_) | (with_reducible refine After.size_le _ ?_) | (with_reducible refine size_alloc_le ?_) | (with_reducible refine size_set_le ?_) | (with_reducible refine size_drewN_le ?_) | go_size))⟩
theorem CrCells.less {W : World} {b off n m : Nat} {f : Nat → Nat → Int} (h : CrCells W b off n f) (hm : m ≤ n) : CrCells W b off m f := fun i hi => h i (by omega)
set_option maxRecDepth 100000 in
set_option maxHeartbeats 1000000 in
theorem cut_ok (b off cap n m : Nat) (f : Nat → Nat → Int) (w : World) (hb : b < w.heap.size) (hn : n ≤ 60) (hcap : n ≤ cap) (hc : CrCells w b off n f) (h1 : 1 ≤ m) (hm : m ≤ n) (ha : CSay w (.slice (some ⟨b, off, none⟩) n cap) true) :
    Calls Tryd.prog 45 #[.slice (some ⟨b, off, none⟩) n cap, .int .i64 m] w fun x w' => ∃ v, x = .returned (.tuple #[v, .int .i64 0]) ∧ CrOwn w' w.heap.size v m f ∧ Below w.heap.size w w' := by
  have HA : Hid (∀ W, Below w.heap.size w W → _) := ha
  have HB := Lib.hid (between_any (m : Nat) 1 n)
  rw [decide_eq_true (by unfold Btw; omega)] at HB
  have HK : Hid (∀ W, Below w.heap.size w W → _) := fun W hW => cloneC_any b off cap m f W (Nat.lt_of_lt_of_le hb hW.size) h1 (by omega) ((hc.on hb hW).less hm)
  have hk : (m : Int) ≤ (cap : Int) := by omega
  clear ha hc
  go_enter Tryd.func45, Tryd.ntmps45
  (go_wp2_with fail); refine calls_after (HA.out _ (by (repeat' (first | (with_reducible exact Below.refl _ _) | (with_reducible assumption) | (with_reducible refine Below.alloc ?_ ?_ _) | (with_reducible refine Below.drew ?_) | (with_reducible refine below_drewN ?_ _) | (with_reducible refine Below.setCell ?_ ?_ _) | (with_reducible refine below_after ?_ ?_ _) | (with_reducible refine below_set ?_) | (with_reducible refine After.size_le _ ?_) | (with_reducible refine size_alloc_le ?_) | (with_reducible refine size_set_le ?_) | (with_reducible refine size_drewN_le ?_) | go_size)))) ?_; intro x1
  (go_wp2_with fail); refine calls_after2 (HB.out _) ?_; intro x2
  go_wp2_with fail
  refine (HK.out _ (by (repeat' (first | (with_reducible exact Below.refl _ _) | (with_reducible assumption) | (with_reducible refine Below.alloc ?_ ?_ _) | (with_reducible refine Below.drew ?_) | (with_reducible refine below_drewN ?_ _) | (with_reducible refine Below.setCell ?_ ?_ _) | (with_reducible refine below_after ?_ ?_ _) | (with_reducible refine below_set ?_) | (with_reducible refine After.size_le _ ?_) | (with_reducible refine size_alloc_le ?_) | (with_reducible refine size_set_le ?_) | (with_reducible refine size_drewN_le ?_) | go_size)))).mono ?_
  rintro e w1 ⟨v, rfl, ho, hb1⟩
  have hsz := x2.out.size
  have HO := Lib.hid (ho.base hsz)
  have HBl := Lib.hid (x2.out.trans (hb1.mono hsz))
  clear ho hb1
  go_wp2
  go_returns
  exact ⟨_, rfl, HO.out, HBl.out⟩
set_option maxRecDepth 100000 in
set_option maxHeartbeats 1000000 in
theorem rcut_ok (b off cap n m : Nat) (f : Nat → Nat → Int) (w : World) (hb : b < w.heap.size) (hn : n ≤ 60) (hcap : n ≤ cap) (hc : CrCells w b off n f) (h1 : 1 ≤ m) (hm : m ≤ n) (ha : RCSay w (.slice (some ⟨b, off, none⟩) n cap) true) :
    Calls Tryd.prog 46 #[.slice (some ⟨b, off, none⟩) n cap, .int .i64 m] w fun x w' => ∃ v, x = .returned (.tuple #[v, .int .i64 0]) ∧ CrOwn w' w.heap.size v m f ∧ Below w.heap.size w w' := by
  have HA : Hid (∀ W, Below w.heap.size w W → _) := ha
  have HB := Lib.hid (within_any (m : Nat) 1 n)
  rw [decide_eq_true (by unfold Btw; omega)] at HB
  have HC : Hid (∀ W, Below w.heap.size w W → CrCells W b off m f) := fun W hW => (hc.on hb hW).less hm
  obtain ⟨i0, hi, hz0, hz1, hz2⟩ := info_parts crInfo
  have hk : (m : Int) ≤ (cap : Int) := by omega
  clear ha hc
  go_enter Tryd.func46, Tryd.ntmps46
  (go_wp2_with fail); refine calls_after (HA.out _ (by (repeat' (first | (with_reducible exact Below.refl _ _) | (with_reducible assumption) | (with_reducible refine Below.alloc ?_ ?_ _) | (with_reducible refine Below.drew ?_) | (with_reducible refine below_drewN ?_ _) | (with_reducible refine Below.setCell ?_ ?_ _) | (with_reducible refine below_after ?_ ?_ _) | (with_reducible refine below_set ?_) | (with_reducible refine After.size_le _ ?_) | (with_reducible refine size_alloc_le ?_) | (with_reducible refine size_set_le ?_) | (with_reducible refine size_drewN_le ?_) | go_size)))) ?_; intro x1
  (go_wp2_with fail); refine calls_after2 (HB.out _) ?_; intro x2
  have hsx := x2.out.size
  have hmc := HC.out (x2.w.alloc (.cells #[] 51)) (x2.out.alloc hsx _)
  have HMC := Lib.hid hmc
  clear hmc
  go_wp2_with (at_builtin; refine wpList_append_own _ rfl _ _ 22 rfl w.heap.size 51 i0 (.agg #[.int .i64 0, .int .i64 0, .int .i64 0, .int .i64 0, .int .i64 0, .int .i64 0]) 6 48 Tryd.underlying22 hi hz0 hz1 hz2 rfl (by decide) _ 0 [] rfl (World.ownsRow_lit x2.w #[] 0 hsx (by unfold maxLen; omega) rfl) ⟨b, off, none⟩ m cap (crc m f) rfl (crc_len m f) (crc_cells HMC.out) (crc_one m f) (by unfold maxLen; omega) (by omega) (by simp; omega) ?_; intro v' w1 hown' hgrow _; have hb1 : Below w.heap.size w w1 := (x2.out.alloc hsx (.cells #[] 51)).grown hgrow (by simp; omega) (fun j e => by cases e; exact hsx); simp only [Nat.zero_add, List.nil_append] at hown'; have HF := Lib.hid (crOwn_of hown' h1); have HBl := Lib.hid hb1; clear hown' hgrow hb1)
  go_returns
  exact ⟨_, rfl, HF.out, HBl.out⟩

/-! ### Added -/
/-- A course by value. -/
def cV (c : Nat → Int) : Value := .agg #[.int .i64 (c 0), .int .i64 (c 1), .int .i64 (c 2), .int .i64 (c 3), .int .i64 (c 4), .int .i64 (c 5)]
def OkV (c : Nat → Int) : Prop := InCr (c 0) (c 1) (c 2) (c 3) (c 4) (c 5)
instance (c : Nat → Int) : Decidable (OkV c) := by unfold OkV; infer_instance
set_option maxRecDepth 100000 in
set_option maxHeartbeats 1000000 in
theorem added_bad (v : Value) (c : Nat → Int) (g : Bool) (w : World) (ha : CSay w v g) (hg : g = false ∨ (g = true ∧ ¬ OkV c)) :
    Calls Tryd.prog 42 #[v, cV c] w fun x w' => x = .returned (.tuple #[.slice none 0 0, .int .i64 1]) ∧ Below w.heap.size w w' := by
  have HA : Hid (∀ W, Below w.heap.size w W → _) := ha
  clear ha
  unfold cV
  rcases hg with rfl | ⟨rfl, hc⟩
  · go_enter Tryd.func42, Tryd.ntmps42
    (go_wp2_with fail); refine calls_after (HA.out _ (by (repeat' (first | (with_reducible exact Below.refl _ _) | (with_reducible assumption) | (with_reducible refine Below.alloc ?_ ?_ _) | (with_reducible refine Below.drew ?_) | (with_reducible refine below_drewN ?_ _) | (with_reducible refine Below.setCell ?_ ?_ _) | (with_reducible refine below_after ?_ ?_ _) | (with_reducible refine below_set ?_) | (with_reducible refine After.size_le _ ?_) | (with_reducible refine size_alloc_le ?_) | (with_reducible refine size_set_le ?_) | (with_reducible refine size_drewN_le ?_) | go_size)))) ?_; intro x1
    go_wp2
    go_returns
    exact ⟨rfl, by (repeat' (first | (with_reducible exact Below.refl _ _) | (with_reducible assumption) | (with_reducible refine Below.alloc ?_ ?_ _) | (with_reducible refine Below.drew ?_) | (with_reducible refine below_drewN ?_ _) | (with_reducible refine Below.setCell ?_ ?_ _) | (with_reducible refine below_after ?_ ?_ _) | (with_reducible refine below_set ?_) | (with_reducible refine After.size_le _ ?_) | (with_reducible refine size_alloc_le ?_) | (with_reducible refine size_set_le ?_) | (with_reducible refine size_drewN_le ?_) | go_size))⟩
  · have HV := Lib.hid (fun W => validCourse_any (c 0) (c 1) (c 2) (c 3) (c 4) (c 5) W)
    unfold OkV at hc
    rw [decide_eq_false hc] at HV
    clear hc
    go_enter Tryd.func42, Tryd.ntmps42
    (go_wp2_with fail); refine calls_after (HA.out _ (by (repeat' (first | (with_reducible exact Below.refl _ _) | (with_reducible assumption) | (with_reducible refine Below.alloc ?_ ?_ _) | (with_reducible refine Below.drew ?_) | (with_reducible refine below_drewN ?_ _) | (with_reducible refine Below.setCell ?_ ?_ _) | (with_reducible refine below_after ?_ ?_ _) | (with_reducible refine below_set ?_) | (with_reducible refine After.size_le _ ?_) | (with_reducible refine size_alloc_le ?_) | (with_reducible refine size_set_le ?_) | (with_reducible refine size_drewN_le ?_) | go_size)))) ?_; intro x1; have hz_x1 := x1.out.size; (try simp only [World.size_alloc] at hz_x1); (try simp only [World.size_setCell] at hz_x1); (try simp only [World.size_alloc] at hz_x1); have k0_x1 : w.heap.size < x1.w.heap.size := (by omega); have j0_x1 : w.heap.size < x1.w.heap.size + 1 := (by omega)
    (go_wp2_with fail); refine calls_after2 (HV.out _) ?_; intro x2
    go_wp2
    go_returns
    exact ⟨rfl, by (repeat' (first | (with_reducible exact Below.refl _ _) | (with_reducible assumption) | (with_reducible refine Below.alloc ?_ ?_ _) | (with_reducible refine Below.drew ?_) | (with_reducible refine below_drewN ?_ _) | (with_reducible refine Below.setCell ?_ ?_ _) | (with_reducible refine below_after ?_ ?_ _) | (with_reducible refine below_set ?_) | (with_reducible refine After.size_le _ ?_) | (with_reducible refine size_alloc_le ?_) | (with_reducible refine size_set_le ?_) | (with_reducible refine size_drewN_le ?_) | go_size))⟩
set_option maxRecDepth 100000 in
set_option maxHeartbeats 1000000 in
theorem radded_bad (v : Value) (c : Nat → Int) (g : Bool) (w : World) (ha : RCSay w v g) (hg : g = false ∨ (g = true ∧ ¬ OkV c)) :
    Calls Tryd.prog 43 #[v, cV c] w fun x w' => x = .returned (.tuple #[.slice none 0 0, .int .i64 1]) ∧ Below w.heap.size w w' := by
  have HA : Hid (∀ W, Below w.heap.size w W → _) := ha
  clear ha
  unfold cV
  rcases hg with rfl | ⟨rfl, hc⟩
  · go_enter Tryd.func43, Tryd.ntmps43
    (go_wp2_with fail); refine calls_after (HA.out _ (by (repeat' (first | (with_reducible exact Below.refl _ _) | (with_reducible assumption) | (with_reducible refine Below.alloc ?_ ?_ _) | (with_reducible refine Below.drew ?_) | (with_reducible refine below_drewN ?_ _) | (with_reducible refine Below.setCell ?_ ?_ _) | (with_reducible refine below_after ?_ ?_ _) | (with_reducible refine below_set ?_) | (with_reducible refine After.size_le _ ?_) | (with_reducible refine size_alloc_le ?_) | (with_reducible refine size_set_le ?_) | (with_reducible refine size_drewN_le ?_) | go_size)))) ?_; intro x1
    go_wp2
    go_returns
    exact ⟨rfl, by (repeat' (first | (with_reducible exact Below.refl _ _) | (with_reducible assumption) | (with_reducible refine Below.alloc ?_ ?_ _) | (with_reducible refine Below.drew ?_) | (with_reducible refine below_drewN ?_ _) | (with_reducible refine Below.setCell ?_ ?_ _) | (with_reducible refine below_after ?_ ?_ _) | (with_reducible refine below_set ?_) | (with_reducible refine After.size_le _ ?_) | (with_reducible refine size_alloc_le ?_) | (with_reducible refine size_set_le ?_) | (with_reducible refine size_drewN_le ?_) | go_size))⟩
  · have HV := Lib.hid (fun W => rvalidCourse_any (c 0) (c 1) (c 2) (c 3) (c 4) (c 5) W)
    unfold OkV at hc
    rw [decide_eq_false hc] at HV
    clear hc
    go_enter Tryd.func43, Tryd.ntmps43
    (go_wp2_with fail); refine calls_after (HA.out _ (by (repeat' (first | (with_reducible exact Below.refl _ _) | (with_reducible assumption) | (with_reducible refine Below.alloc ?_ ?_ _) | (with_reducible refine Below.drew ?_) | (with_reducible refine below_drewN ?_ _) | (with_reducible refine Below.setCell ?_ ?_ _) | (with_reducible refine below_after ?_ ?_ _) | (with_reducible refine below_set ?_) | (with_reducible refine After.size_le _ ?_) | (with_reducible refine size_alloc_le ?_) | (with_reducible refine size_set_le ?_) | (with_reducible refine size_drewN_le ?_) | go_size)))) ?_; intro x1; have hz_x1 := x1.out.size; (try simp only [World.size_alloc] at hz_x1); (try simp only [World.size_setCell] at hz_x1); (try simp only [World.size_alloc] at hz_x1); have k0_x1 : w.heap.size < x1.w.heap.size := (by omega); have j0_x1 : w.heap.size < x1.w.heap.size + 1 := (by omega)
    (go_wp2_with fail); refine calls_after2 (HV.out _) ?_; intro x2
    go_wp2
    go_returns
    exact ⟨rfl, by (repeat' (first | (with_reducible exact Below.refl _ _) | (with_reducible assumption) | (with_reducible refine Below.alloc ?_ ?_ _) | (with_reducible refine Below.drew ?_) | (with_reducible refine below_drewN ?_ _) | (with_reducible refine Below.setCell ?_ ?_ _) | (with_reducible refine below_after ?_ ?_ _) | (with_reducible refine below_set ?_) | (with_reducible refine After.size_le _ ?_) | (with_reducible refine size_alloc_le ?_) | (with_reducible refine size_set_le ?_) | (with_reducible refine size_drewN_le ?_) | go_size))⟩
set_option maxRecDepth 100000 in
set_option maxHeartbeats 1000000 in
theorem added_full (a : Option Addr) (cap : Nat) (c : Nat → Int) (w : World) (ha : CSay w (.slice a 60 cap) true) (hc : OkV c) :
    Calls Tryd.prog 42 #[.slice a 60 cap, cV c] w fun x w' => x = .returned (.tuple #[.slice none 0 0, .int .i64 4]) ∧ Below w.heap.size w w' := by
  have HA : Hid (∀ W, Below w.heap.size w W → _) := ha
  have HV := Lib.hid (fun W => validCourse_any (c 0) (c 1) (c 2) (c 3) (c 4) (c 5) W)
  unfold OkV at hc
  rw [decide_eq_true hc] at HV
  clear ha hc
  unfold cV
  go_enter Tryd.func42, Tryd.ntmps42
  (go_wp2_with fail); refine calls_after (HA.out _ (by (repeat' (first | (with_reducible exact Below.refl _ _) | (with_reducible assumption) | (with_reducible refine Below.alloc ?_ ?_ _) | (with_reducible refine Below.drew ?_) | (with_reducible refine below_drewN ?_ _) | (with_reducible refine Below.setCell ?_ ?_ _) | (with_reducible refine below_after ?_ ?_ _) | (with_reducible refine below_set ?_) | (with_reducible refine After.size_le _ ?_) | (with_reducible refine size_alloc_le ?_) | (with_reducible refine size_set_le ?_) | (with_reducible refine size_drewN_le ?_) | go_size)))) ?_; intro x1; have hz_x1 := x1.out.size; (try simp only [World.size_alloc] at hz_x1); (try simp only [World.size_setCell] at hz_x1); (try simp only [World.size_alloc] at hz_x1); have k0_x1 : w.heap.size < x1.w.heap.size := (by omega); have j0_x1 : w.heap.size < x1.w.heap.size + 1 := (by omega)
  (go_wp2_with fail); refine calls_after2 (HV.out _) ?_; intro x2
  go_wp2
  go_returns
  exact ⟨rfl, by (repeat' (first | (with_reducible exact Below.refl _ _) | (with_reducible assumption) | (with_reducible refine Below.alloc ?_ ?_ _) | (with_reducible refine Below.drew ?_) | (with_reducible refine below_drewN ?_ _) | (with_reducible refine Below.setCell ?_ ?_ _) | (with_reducible refine below_after ?_ ?_ _) | (with_reducible refine below_set ?_) | (with_reducible refine After.size_le _ ?_) | (with_reducible refine size_alloc_le ?_) | (with_reducible refine size_set_le ?_) | (with_reducible refine size_drewN_le ?_) | go_size))⟩
set_option maxRecDepth 100000 in
set_option maxHeartbeats 1000000 in
theorem radded_full (a : Option Addr) (cap : Nat) (c : Nat → Int) (w : World) (ha : RCSay w (.slice a 60 cap) true) (hc : OkV c) :
    Calls Tryd.prog 43 #[.slice a 60 cap, cV c] w fun x w' => x = .returned (.tuple #[.slice none 0 0, .int .i64 4]) ∧ Below w.heap.size w w' := by
  have HA : Hid (∀ W, Below w.heap.size w W → _) := ha
  have HV := Lib.hid (fun W => rvalidCourse_any (c 0) (c 1) (c 2) (c 3) (c 4) (c 5) W)
  unfold OkV at hc
  rw [decide_eq_true hc] at HV
  clear ha hc
  unfold cV
  go_enter Tryd.func43, Tryd.ntmps43
  (go_wp2_with fail); refine calls_after (HA.out _ (by (repeat' (first | (with_reducible exact Below.refl _ _) | (with_reducible assumption) | (with_reducible refine Below.alloc ?_ ?_ _) | (with_reducible refine Below.drew ?_) | (with_reducible refine below_drewN ?_ _) | (with_reducible refine Below.setCell ?_ ?_ _) | (with_reducible refine below_after ?_ ?_ _) | (with_reducible refine below_set ?_) | (with_reducible refine After.size_le _ ?_) | (with_reducible refine size_alloc_le ?_) | (with_reducible refine size_set_le ?_) | (with_reducible refine size_drewN_le ?_) | go_size)))) ?_; intro x1; have hz_x1 := x1.out.size; (try simp only [World.size_alloc] at hz_x1); (try simp only [World.size_setCell] at hz_x1); (try simp only [World.size_alloc] at hz_x1); have k0_x1 : w.heap.size < x1.w.heap.size := (by omega); have j0_x1 : w.heap.size < x1.w.heap.size + 1 := (by omega)
  (go_wp2_with fail); refine calls_after2 (HV.out _) ?_; intro x2
  go_wp2
  go_returns
  exact ⟨rfl, by (repeat' (first | (with_reducible exact Below.refl _ _) | (with_reducible assumption) | (with_reducible refine Below.alloc ?_ ?_ _) | (with_reducible refine Below.drew ?_) | (with_reducible refine below_drewN ?_ _) | (with_reducible refine Below.setCell ?_ ?_ _) | (with_reducible refine below_after ?_ ?_ _) | (with_reducible refine below_set ?_) | (with_reducible refine After.size_le _ ?_) | (with_reducible refine size_alloc_le ?_) | (with_reducible refine size_set_le ?_) | (with_reducible refine size_drewN_le ?_) | go_size))⟩
/-- The list with the course behind it. -/
def adC (n : Nat) (f : Nat → Nat → Int) (c : Nat → Int) : Nat → Nat → Int := crA n f (fun _ => c)
theorem ad_list (n : Nat) (f : Nat → Nat → Int) (c : Nat → Int) : crc n f ++ c6 c = crc (n + 1) (adC n f c) := by
  have : c6 c = crc 1 (fun _ => c) := by simp [crc]
  rw [this, crc_app]; rfl
set_option maxRecDepth 100000 in
theorem added_cat (V : World) (b off cap n : Nat) (f : Nat → Nat → Int) (c : Nat → Int) (hb : b < V.heap.size) (hc : CrCells V b off n f) (hn : n < 60) :
    Calls Tryd.prog 78 #[.slice (some ⟨V.heap.size + 1, 0, none⟩) 2 2] ((V.alloc (.cells #[.int .i64 (c 0), .int .i64 (c 1), .int .i64 (c 2), .int .i64 (c 3), .int .i64 (c 4), .int .i64 (c 5)] 51)).alloc
      (.cells #[.slice (some ⟨b, off, none⟩) n cap, .slice (some ⟨V.heap.size, 0, none⟩) 1 1] 22)) fun e w' => ∃ v, e = .returned v ∧ CrOwn w' V.heap.size v (n + 1) (adC n f c) ∧ Below V.heap.size V w' := by
  obtain ⟨X, hX⟩ : ∃ X, (V.alloc (.cells #[.int .i64 (c 0), .int .i64 (c 1), .int .i64 (c 2), .int .i64 (c 3), .int .i64 (c 4), .int .i64 (c 5)] 51)).alloc
      (.cells #[.slice (some ⟨b, off, none⟩) n cap, .slice (some ⟨V.heap.size, 0, none⟩) 1 1] 22) = X := ⟨_, rfl⟩
  have hB : Below V.heap.size V X := by rw [← hX]; (repeat' (first | (with_reducible exact Below.refl _ _) | (with_reducible assumption) | (with_reducible refine Below.alloc ?_ ?_ _) | (with_reducible refine Below.drew ?_) | (with_reducible refine below_drewN ?_ _) | (with_reducible refine Below.setCell ?_ ?_ _) | (with_reducible refine below_after ?_ ?_ _) | (with_reducible refine below_set ?_) | (with_reducible refine After.size_le _ ?_) | (with_reducible refine size_alloc_le ?_) | (with_reducible refine size_set_le ?_) | (with_reducible refine size_drewN_le ?_) | go_size))
  have hs : X.heap.size = V.heap.size + 2 := by rw [← hX]; simp
  have c0 : X.cell? ⟨V.heap.size + 1, 0, none⟩ = some (.slice (some ⟨b, off, none⟩) n cap) := by rw [← hX]; simp [go_sem]
  have c1 : X.cell? ⟨V.heap.size + 1, 1, none⟩ = some (.slice (some ⟨V.heap.size, 0, none⟩) 1 1) := by rw [← hX]; simp [go_sem]
  have ht : CrCells X V.heap.size 0 1 (fun _ => c) := fun i hi => by
    rw [← hX]
    obtain rfl : i = 0 := by omega
    simp [go_sem]
  rw [hX]
  clear hX
  have h := concat2 b off cap n V.heap.size 0 1 1 f (fun _ => c) (V.heap.size + 1) X (by omega) c0 c1 ⟨by omega, hc.on hb hB⟩ ⟨by omega, ht⟩ (by omega) (by omega)
  refine h.mono ?_
  rintro e w' ⟨v, rfl, h1, h2⟩
  rw [crc_app] at h1
  exact ⟨v, rfl, (crOwn_of h1 (by omega)).base (by omega), hB.trans (h2.mono hB.size)⟩
set_option maxRecDepth 100000 in
set_option maxHeartbeats 1000000 in
theorem added_ok (b off cap n : Nat) (f : Nat → Nat → Int) (c : Nat → Int) (w : World) (hb : b < w.heap.size) (hn : n < 60) (hc : CrCells w b off n f) (ha : CSay w (.slice (some ⟨b, off, none⟩) n cap) true) (hO : OkV c) :
    Calls Tryd.prog 42 #[.slice (some ⟨b, off, none⟩) n cap, cV c] w fun x w' => ∃ v, x = .returned (.tuple #[v, .int .i64 0]) ∧ CrOwn w' w.heap.size v (n + 1) (adC n f c) ∧ Below w.heap.size w w' := by
  have HA : Hid (∀ W, Below w.heap.size w W → _) := ha
  have HV := Lib.hid (fun W => validCourse_any (c 0) (c 1) (c 2) (c 3) (c 4) (c 5) W)
  unfold OkV at hO
  rw [decide_eq_true hO] at HV
  have HK : Hid (∀ V, Below w.heap.size w V → _) := fun V hV => added_cat V b off cap n f c (Nat.lt_of_lt_of_le hb hV.size) (hc.on hb hV) hn
  have n60 : ((n : Int) == 60) = false := by rw [beq_eq_false_iff_ne]; omega
  clear ha hc hO
  unfold cV
  go_enter Tryd.func42, Tryd.ntmps42
  (go_wp2_with fail); refine calls_after (HA.out _ (by (repeat' (first | (with_reducible exact Below.refl _ _) | (with_reducible assumption) | (with_reducible refine Below.alloc ?_ ?_ _) | (with_reducible refine Below.drew ?_) | (with_reducible refine below_drewN ?_ _) | (with_reducible refine Below.setCell ?_ ?_ _) | (with_reducible refine below_after ?_ ?_ _) | (with_reducible refine below_set ?_) | (with_reducible refine After.size_le _ ?_) | (with_reducible refine size_alloc_le ?_) | (with_reducible refine size_set_le ?_) | (with_reducible refine size_drewN_le ?_) | go_size)))) ?_; intro x1; have hz_x1 := x1.out.size; (try simp only [World.size_alloc] at hz_x1); (try simp only [World.size_setCell] at hz_x1); (try simp only [World.size_alloc] at hz_x1); have k0_x1 : w.heap.size < x1.w.heap.size := (by omega); have j0_x1 : w.heap.size < x1.w.heap.size + 1 := (by omega)
  (go_wp2_with fail); refine calls_after2 (HV.out _) ?_; intro x2; have hz_x2 := x2.out.size; (try simp only [World.size_alloc] at hz_x2); (try simp only [World.size_setCell] at hz_x2); (try simp only [World.size_alloc] at hz_x2); have k0_x2 : w.heap.size < x2.w.heap.size := (by omega); have j0_x2 : w.heap.size < x2.w.heap.size + 1 := (by omega)
  have hB2 : Below w.heap.size w x2.w := by (repeat' (first | (with_reducible exact Below.refl _ _) | (with_reducible assumption) | (with_reducible refine Below.alloc ?_ ?_ _) | (with_reducible refine Below.drew ?_) | (with_reducible refine below_drewN ?_ _) | (with_reducible refine Below.setCell ?_ ?_ _) | (with_reducible refine below_after ?_ ?_ _) | (with_reducible refine below_set ?_) | (with_reducible refine After.size_le _ ?_) | (with_reducible refine size_alloc_le ?_) | (with_reducible refine size_set_le ?_) | (with_reducible refine size_drewN_le ?_) | go_size))
  have HK2 := Lib.hid (HK.out x2.w hB2)
  go_wp2_with fail
  refine HK2.out.mono ?_
  rintro e w5 ⟨v5, rfl, ho, hb5⟩
  have HO := Lib.hid (ho.base hB2.size)
  have HBl := Lib.hid (hB2.trans (hb5.mono hB2.size))
  clear ho hb5
  go_wp2
  go_returns
  exact ⟨_, rfl, HO.out, HBl.out⟩
end Go.Proofs.YtplhbklfaokjbaaDoor
