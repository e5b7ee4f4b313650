/- A rope with its uses: valid, check. -/
import Derived.Test.YtnhkkboddoiinaaUsesr
namespace Go.Proofs.Ytnhkkboddoiinaa
open Go.RowKit
attribute [local go_sem] After.cell After.frozen After.lt After.le After.ne After.ne' After.set_eq After.size_set After.lt_add

/-- The slice value v holds the uses ps in the world W, in a block below B; what room it has. -/
def Prc (W : World) (B : Nat) (v : Value) (ps : List (Int × Int)) : Prop :=
  (v = .slice none 0 0 ∧ ps = []) ∨ (∃ p cap, v = .slice (some p) 0 cap ∧ cap ≤ 9223372036854775807 ∧ ps = []) ∨
  ∃ b off cap, v = .slice (some ⟨b, off, none⟩) ps.length cap ∧ 0 < ps.length ∧ ps.length ≤ cap ∧ cap ≤ 9223372036854775807 ∧ b < B ∧ PrCells W b off ps
theorem prc_on {v : Value} {ps : List (Int × Int)} {w W : World} (h : Prc w w.heap.size v ps) (hW : Below w.heap.size w W) : Prc W W.heap.size v ps := by
  rcases h with h | h | ⟨b, off, cap, e, h0, h1, h2, hb, hc⟩
  · exact .inl h
  · exact .inr (.inl h)
  · exact .inr (.inr ⟨b, off, cap, e, h0, h1, h2, Nat.lt_of_lt_of_le hb hW.size, prCells_on hb hc hW⟩)
theorem prc_slice {W : World} {B : Nat} {v : Value} {ps : List (Int × Int)} (h : Prc W B v ps) : ∃ a cap, v = .slice a ps.length cap := by
  rcases h with ⟨rfl, rfl⟩ | ⟨p, cap, rfl, _, rfl⟩ | ⟨b, off, cap, rfl, _⟩
  · exact ⟨none, 0, rfl⟩
  · exact ⟨_, cap, rfl⟩
  · exact ⟨_, cap, rfl⟩
theorem validUses_v (v : Value) (ps : List (Int × Int)) (w : World) (h : Prc w w.heap.size v ps) (hl : ps.length ≤ 1000) (g : Bool) (hg : decide (GoodU ps) = g) :
    Calls Try.prog 44 #[v] w fun e w' => e = .returned (.bool g) ∧ Below w.heap.size w w' := by
  subst hg
  have e : decide (GoodU []) = true := by decide
  rcases h with ⟨rfl, rfl⟩ | ⟨p, cap, rfl, _, rfl⟩ | ⟨b, off, cap, rfl, h0, h1, h2, hb, hc⟩
  · rw [e]; exact validUses_empty none 0 w
  · rw [e]; exact validUses_empty _ cap w
  · exact validUses_row b off cap ps w hb hl h1 h2 hc
theorem rvalidUses_v (v : Value) (ps : List (Int × Int)) (w : World) (h : Prc w w.heap.size v ps) (hl : ps.length ≤ 1000) (g : Bool) (hg : decide (GoodU ps) = g) :
    Calls Try.prog 45 #[v] w fun e w' => e = .returned (.bool g) ∧ Below w.heap.size w w' := by
  subst hg
  have e : decide (GoodU []) = true := by decide
  rcases h with ⟨rfl, rfl⟩ | ⟨p, cap, rfl, _, rfl⟩ | ⟨b, off, cap, rfl, h0, h1, h2, hb, hc⟩
  · rw [e]; exact rvalidUses_empty none 0 w
  · rw [e]; exact rvalidUses_empty _ cap w
  · exact rvalidUses_row b off cap ps w hb hl hc

/-- A valid rope with valid uses. -/
def GoodW (s d l : Int) (ps : List (Int × Int)) : Prop := GoodR s d l ∧ GoodU ps
instance (s d l : Int) (ps : List (Int × Int)) : Decidable (GoodW s d l ps) := by unfold GoodW; infer_instance

set_option maxRecDepth 100000 in
set_option maxHeartbeats 400000 in
theorem wvalid_any (s d l : Int) (v : Value) (ps : List (Int × Int)) (w : World) (h : Prc w w.heap.size v ps) (hl : ps.length ≤ 1000) (g : Bool) (hg : decide (GoodW s d l ps) = g) :
    Calls Try.prog 88 #[.agg #[.int .i64 s, .int .i64 d, .int .i64 l, v]] w fun e w' => e = .returned (.bool g) ∧ Below w.heap.size w w' := by
  subst hg
  obtain ⟨a, cap, hv⟩ := prc_slice h
  by_cases hR : GoodR s d l
  · have e : decide (GoodW s d l ps) = decide (GoodU ps) := by unfold GoodW; simp [hR]
    have HR : Hid (∀ W, Calls Try.prog 42 #[.agg #[.int .i64 s, .int .i64 d, .int .i64 l]] W fun e w' => e = .returned (.bool true) ∧ Below W.heap.size W w') := fun W => by
      have := validRope_any s d l W
      rwa [show decide (GoodR s d l) = true by simp [hR]] at this
    have HU : Hid (∀ W, Below w.heap.size w W → _) := fun W hW => validUses_v v ps W (prc_on h hW) hl _ rfl
    rw [e]
    generalize decide (GoodU ps) = g at *
    clear hR e h
    subst hv
    generalize ps.length = n at *
    go_enter Try.func88, Try.ntmps88
    go_wp2_with fail
    refine calls_after (HR.out _) ?_
    intro x1
    have hz_x1 := x1.out.size; (try simp only [World.size_alloc] at hz_x1); (try simp only [World.size_setCell] at hz_x1); (try simp only [World.size_alloc] at hz_x1); have k0_x1 : w.heap.size < x1.w.heap.size := (by omega); have j0_x1 : w.heap.size < x1.w.heap.size + 1 := (by omega)
    go_wp2_with fail
    refine calls_after2 (HU.out _ (by (repeat' (first | (with_reducible exact Below.refl _ _) | (with_reducible assumption) | (with_reducible refine Below.alloc ?_ ?_ _) | (with_reducible refine Below.drew ?_) | (with_reducible refine below_drewN ?_ _) | (with_reducible refine Below.setCell ?_ ?_ _) | (with_reducible refine below_after ?_ ?_ _) | (with_reducible refine below_set ?_) | (with_reducible refine After.size_le _ ?_) | (with_reducible refine size_alloc_le ?_) | (with_reducible refine size_set_le ?_) | (with_reducible refine size_drewN_le ?_) | go_size)))) ?_
    intro x2
    go_wp2
    go_ret
    exact ⟨rfl, by (repeat' (first | (with_reducible exact Below.refl _ _) | (with_reducible assumption) | (with_reducible refine Below.alloc ?_ ?_ _) | (with_reducible refine Below.drew ?_) | (with_reducible refine below_drewN ?_ _) | (with_reducible refine Below.setCell ?_ ?_ _) | (with_reducible refine below_after ?_ ?_ _) | (with_reducible refine below_set ?_) | (with_reducible refine After.size_le _ ?_) | (with_reducible refine size_alloc_le ?_) | (with_reducible refine size_set_le ?_) | (with_reducible refine size_drewN_le ?_) | go_size))⟩
  · have e : decide (GoodW s d l ps) = false := by unfold GoodW; simp [hR]
    have HR : Hid (∀ W, Calls Try.prog 42 #[.agg #[.int .i64 s, .int .i64 d, .int .i64 l]] W fun e w' => e = .returned (.bool false) ∧ Below W.heap.size W w') := fun W => by
      have := validRope_any s d l W
      rwa [show decide (GoodR s d l) = false by simp [hR]] at this
    rw [e]
    clear hR e h
    subst hv
    generalize ps.length = n at *
    go_enter Try.func88, Try.ntmps88
    go_wp2_with fail
    refine calls_after (HR.out _) ?_
    intro x1
    go_wp2
    go_ret
    exact ⟨rfl, by (repeat' (first | (with_reducible exact Below.refl _ _) | (with_reducible assumption) | (with_reducible refine Below.alloc ?_ ?_ _) | (with_reducible refine Below.drew ?_) | (with_reducible refine below_drewN ?_ _) | (with_reducible refine Below.setCell ?_ ?_ _) | (with_reducible refine below_after ?_ ?_ _) | (with_reducible refine below_set ?_) | (with_reducible refine After.size_le _ ?_) | (with_reducible refine size_alloc_le ?_) | (with_reducible refine size_set_le ?_) | (with_reducible refine size_drewN_le ?_) | go_size))⟩

theorem validDay_any (n : Int) (b : Bool) (hb : decide (Dy n) = b) (w : World) :
    Calls Try.prog 90 #[.int .i64 n] w fun e w' => e = .returned (.bool b) ∧ w = w' := by
  have H := Lib.hid (fun w => between_any n 0 100000 w)
  have HB : Hid (decide (Btw n 0 100000) = b) := hb
  clear hb
  go_enter Try.func90, Try.ntmps90
  go_wp2_with (go_at_call 61; rw [HB.out] at H; refine (H.out _).mono ?_; rintro e w' ⟨rfl, rfl⟩)
  go_ret
  exact ⟨rfl, rfl⟩

def erN (s d l : Int) (ps : List (Int × Int)) (day n : Int) : Int := if GoodW s d l ps then if Dy day ∧ Ld n then 0 else 7 else 1
set_option maxRecDepth 100000 in
set_option maxHeartbeats 400000 in
theorem check_any (s d l : Int) (v : Value) (ps : List (Int × Int)) (day n : Int) (w : World) (h : Prc w w.heap.size v ps) (hl : ps.length ≤ 1000) :
    Calls Try.prog 80 #[.agg #[.int .i64 s, .int .i64 d, .int .i64 l, v], .int .i64 day, .int .i64 n] w fun e w' => e = .returned (.int .i64 (erN s d l ps day n)) ∧ Below w.heap.size w w' := by
  obtain ⟨a, cap, hv⟩ := prc_slice h
  by_cases hW : GoodW s d l ps
  · have HV : Hid (∀ W, Below w.heap.size w W → _) := fun W hW' => wvalid_any s d l v ps W (prc_on h hW') hl true (by simp [hW])
    by_cases hD : Dy day
    · have HD := Lib.hid (fun W => validDay_any day true (by simp [hD]) W)
      by_cases hn : Ld n
      · have e : erN s d l ps day n = 0 := by simp [erN, hW, hD, hn]
        have HL := Lib.hid (fun W => validLoad_any n true (by simp [hn]) W)
        rw [e]
        clear hW hD hn e h
        subst hv
        generalize ps.length = m at *
        go_enter Try.func80, Try.ntmps80
        go_wp2_with fail
        refine calls_after (HV.out _ (by (repeat' (first | (with_reducible exact Below.refl _ _) | (with_reducible assumption) | (with_reducible refine Below.alloc ?_ ?_ _) | (with_reducible refine Below.drew ?_) | (with_reducible refine below_drewN ?_ _) | (with_reducible refine Below.setCell ?_ ?_ _) | (with_reducible refine below_after ?_ ?_ _) | (with_reducible refine below_set ?_) | (with_reducible refine After.size_le _ ?_) | (with_reducible refine size_alloc_le ?_) | (with_reducible refine size_set_le ?_) | (with_reducible refine size_drewN_le ?_) | go_size)))) ?_
        intro x1
        go_wp2_with (first | (go_at_call 90; refine (HD.out _).mono ?_; rintro e w1 ⟨rfl, rfl⟩) | (go_at_call 64; refine (HL.out _).mono ?_; rintro e w1 ⟨rfl, rfl⟩))
        go_ret
        exact ⟨rfl, by (repeat' (first | (with_reducible exact Below.refl _ _) | (with_reducible assumption) | (with_reducible refine Below.alloc ?_ ?_ _) | (with_reducible refine Below.drew ?_) | (with_reducible refine below_drewN ?_ _) | (with_reducible refine Below.setCell ?_ ?_ _) | (with_reducible refine below_after ?_ ?_ _) | (with_reducible refine below_set ?_) | (with_reducible refine After.size_le _ ?_) | (with_reducible refine size_alloc_le ?_) | (with_reducible refine size_set_le ?_) | (with_reducible refine size_drewN_le ?_) | go_size))⟩
      · have e : erN s d l ps day n = 7 := by simp [erN, hW, hn]
        have HL := Lib.hid (fun W => validLoad_any n false (by simp [hn]) W)
        rw [e]
        clear hW hD hn e h
        subst hv
        generalize ps.length = m at *
        go_enter Try.func80, Try.ntmps80
        go_wp2_with fail
        refine calls_after (HV.out _ (by (repeat' (first | (with_reducible exact Below.refl _ _) | (with_reducible assumption) | (with_reducible refine Below.alloc ?_ ?_ _) | (with_reducible refine Below.drew ?_) | (with_reducible refine below_drewN ?_ _) | (with_reducible refine Below.setCell ?_ ?_ _) | (with_reducible refine below_after ?_ ?_ _) | (with_reducible refine below_set ?_) | (with_reducible refine After.size_le _ ?_) | (with_reducible refine size_alloc_le ?_) | (with_reducible refine size_set_le ?_) | (with_reducible refine size_drewN_le ?_) | go_size)))) ?_
        intro x1
        go_wp2_with (first | (go_at_call 90; refine (HD.out _).mono ?_; rintro e w1 ⟨rfl, rfl⟩) | (go_at_call 64; refine (HL.out _).mono ?_; rintro e w1 ⟨rfl, rfl⟩))
        go_ret
        exact ⟨rfl, by (repeat' (first | (with_reducible exact Below.refl _ _) | (with_reducible assumption) | (with_reducible refine Below.alloc ?_ ?_ _) | (with_reducible refine Below.drew ?_) | (with_reducible refine below_drewN ?_ _) | (with_reducible refine Below.setCell ?_ ?_ _) | (with_reducible refine below_after ?_ ?_ _) | (with_reducible refine below_set ?_) | (with_reducible refine After.size_le _ ?_) | (with_reducible refine size_alloc_le ?_) | (with_reducible refine size_set_le ?_) | (with_reducible refine size_drewN_le ?_) | go_size))⟩
    · have HD := Lib.hid (fun W => validDay_any day false (by simp [hD]) W)
      have e : erN s d l ps day n = 7 := by simp [erN, hW, hD]
      rw [e]
      clear hW hD e h
      subst hv
      generalize ps.length = m at *
      go_enter Try.func80, Try.ntmps80
      go_wp2_with fail
      refine calls_after (HV.out _ (by (repeat' (first | (with_reducible exact Below.refl _ _) | (with_reducible assumption) | (with_reducible refine Below.alloc ?_ ?_ _) | (with_reducible refine Below.drew ?_) | (with_reducible refine below_drewN ?_ _) | (with_reducible refine Below.setCell ?_ ?_ _) | (with_reducible refine below_after ?_ ?_ _) | (with_reducible refine below_set ?_) | (with_reducible refine After.size_le _ ?_) | (with_reducible refine size_alloc_le ?_) | (with_reducible refine size_set_le ?_) | (with_reducible refine size_drewN_le ?_) | go_size)))) ?_
      intro x1
      go_wp2_with (first | (go_at_call 90; refine (HD.out _).mono ?_; rintro e w1 ⟨rfl, rfl⟩))
      go_ret
      exact ⟨rfl, by (repeat' (first | (with_reducible exact Below.refl _ _) | (with_reducible assumption) | (with_reducible refine Below.alloc ?_ ?_ _) | (with_reducible refine Below.drew ?_) | (with_reducible refine below_drewN ?_ _) | (with_reducible refine Below.setCell ?_ ?_ _) | (with_reducible refine below_after ?_ ?_ _) | (with_reducible refine below_set ?_) | (with_reducible refine After.size_le _ ?_) | (with_reducible refine size_alloc_le ?_) | (with_reducible refine size_set_le ?_) | (with_reducible refine size_drewN_le ?_) | go_size))⟩
  · have HV : Hid (∀ W, Below w.heap.size w W → _) := fun W hW' => wvalid_any s d l v ps W (prc_on h hW') hl false (by simp [hW])
    have e : erN s d l ps day n = 1 := by simp [erN, hW]
    rw [e]
    clear hW e h
    subst hv
    generalize ps.length = m at *
    go_enter Try.func80, Try.ntmps80
    go_wp2_with fail
    refine calls_after (HV.out _ (by (repeat' (first | (with_reducible exact Below.refl _ _) | (with_reducible assumption) | (with_reducible refine Below.alloc ?_ ?_ _) | (with_reducible refine Below.drew ?_) | (with_reducible refine below_drewN ?_ _) | (with_reducible refine Below.setCell ?_ ?_ _) | (with_reducible refine below_after ?_ ?_ _) | (with_reducible refine below_set ?_) | (with_reducible refine After.size_le _ ?_) | (with_reducible refine size_alloc_le ?_) | (with_reducible refine size_set_le ?_) | (with_reducible refine size_drewN_le ?_) | go_size)))) ?_
    intro x1
    go_wp2
    go_ret
    exact ⟨rfl, by (repeat' (first | (with_reducible exact Below.refl _ _) | (with_reducible assumption) | (with_reducible refine Below.alloc ?_ ?_ _) | (with_reducible refine Below.drew ?_) | (with_reducible refine below_drewN ?_ _) | (with_reducible refine Below.setCell ?_ ?_ _) | (with_reducible refine below_after ?_ ?_ _) | (with_reducible refine below_set ?_) | (with_reducible refine After.size_le _ ?_) | (with_reducible refine size_alloc_le ?_) | (with_reducible refine size_set_le ?_) | (with_reducible refine size_drewN_le ?_) | go_size))⟩

set_option maxRecDepth 100000 in
set_option maxHeartbeats 400000 in
theorem ropeError_any (s d l : Int) (v : Value) (ps : List (Int × Int)) (day n : Int) (w : World) (h : Prc w w.heap.size v ps) (hl : ps.length ≤ 1000) :
    Calls Try.prog 82 #[.agg #[.int .i64 s, .int .i64 d, .int .i64 l], v, .int .i64 day, .int .i64 n] w fun e w' => e = .returned (.int .i64 (erN s d l ps day n)) ∧ Below w.heap.size w w' := by
  obtain ⟨a, cap, hv⟩ := prc_slice h
  by_cases hR : GoodR s d l
  · have HR : Hid (∀ W, Calls Try.prog 43 #[.agg #[.int .i64 s, .int .i64 d, .int .i64 l]] W fun e w' => e = .returned (.bool true) ∧ Below W.heap.size W w') := fun W => by
      have := rvalidRope_any s d l W
      rwa [show decide (GoodR s d l) = true by simp [hR]] at this
    by_cases hU : GoodU ps
    · have HU : Hid (∀ W, Below w.heap.size w W → _) := fun W hW => rvalidUses_v v ps W (prc_on h hW) hl true (by simp [hU])
      have hW : GoodW s d l ps := ⟨hR, hU⟩
      by_cases hD : Dy day
      · have HD := Lib.hid (fun W => within_t day 0 100000 W hD)
        have e : erN s d l ps day n = if Ld n then 0 else 7 := by simp [erN, hW, hD]
        by_cases hn : Ld n
        · have HL := Lib.hid (fun W => rload_any n true (by simp [hn]) W)
          rw [e, if_pos hn]
          clear hW hD hn e h hR hU
          subst hv
          generalize ps.length = m at *
          go_enter Try.func82, Try.ntmps82
          go_wp2_with fail
          refine calls_after (HR.out _) ?_
          intro x1
          go_wp2_with fail
          refine calls_after2 (HU.out _ (by (repeat' (first | (with_reducible exact Below.refl _ _) | (with_reducible assumption) | (with_reducible refine Below.alloc ?_ ?_ _) | (with_reducible refine Below.drew ?_) | (with_reducible refine below_drewN ?_ _) | (with_reducible refine Below.setCell ?_ ?_ _) | (with_reducible refine below_after ?_ ?_ _) | (with_reducible refine below_set ?_) | (with_reducible refine After.size_le _ ?_) | (with_reducible refine size_alloc_le ?_) | (with_reducible refine size_set_le ?_) | (with_reducible refine size_drewN_le ?_) | go_size)))) ?_
          intro x2
          go_wp2_with (first | (go_at_call 63; refine (HD.out _).mono ?_; rintro e w1 ⟨rfl, rfl⟩) | (go_at_call 67; refine (HL.out _).mono ?_; rintro e w1 ⟨rfl, rfl⟩))
          go_ret
          exact ⟨rfl, by (repeat' (first | (with_reducible exact Below.refl _ _) | (with_reducible assumption) | (with_reducible refine Below.alloc ?_ ?_ _) | (with_reducible refine Below.drew ?_) | (with_reducible refine below_drewN ?_ _) | (with_reducible refine Below.setCell ?_ ?_ _) | (with_reducible refine below_after ?_ ?_ _) | (with_reducible refine below_set ?_) | (with_reducible refine After.size_le _ ?_) | (with_reducible refine size_alloc_le ?_) | (with_reducible refine size_set_le ?_) | (with_reducible refine size_drewN_le ?_) | go_size))⟩
        · have HL := Lib.hid (fun W => rload_any n false (by simp [hn]) W)
          rw [e, if_neg hn]
          clear hW hD hn e h hR hU
          subst hv
          generalize ps.length = m at *
          go_enter Try.func82, Try.ntmps82
          go_wp2_with fail
          refine calls_after (HR.out _) ?_
          intro x1
          go_wp2_with fail
          refine calls_after2 (HU.out _ (by (repeat' (first | (with_reducible exact Below.refl _ _) | (with_reducible assumption) | (with_reducible refine Below.alloc ?_ ?_ _) | (with_reducible refine Below.drew ?_) | (with_reducible refine below_drewN ?_ _) | (with_reducible refine Below.setCell ?_ ?_ _) | (with_reducible refine below_after ?_ ?_ _) | (with_reducible refine below_set ?_) | (with_reducible refine After.size_le _ ?_) | (with_reducible refine size_alloc_le ?_) | (with_reducible refine size_set_le ?_) | (with_reducible refine size_drewN_le ?_) | go_size)))) ?_
          intro x2
          go_wp2_with (first | (go_at_call 63; refine (HD.out _).mono ?_; rintro e w1 ⟨rfl, rfl⟩) | (go_at_call 67; refine (HL.out _).mono ?_; rintro e w1 ⟨rfl, rfl⟩))
          go_ret
          exact ⟨rfl, by (repeat' (first | (with_reducible exact Below.refl _ _) | (with_reducible assumption) | (with_reducible refine Below.alloc ?_ ?_ _) | (with_reducible refine Below.drew ?_) | (with_reducible refine below_drewN ?_ _) | (with_reducible refine Below.setCell ?_ ?_ _) | (with_reducible refine below_after ?_ ?_ _) | (with_reducible refine below_set ?_) | (with_reducible refine After.size_le _ ?_) | (with_reducible refine size_alloc_le ?_) | (with_reducible refine size_set_le ?_) | (with_reducible refine size_drewN_le ?_) | go_size))⟩
      · have HD := Lib.hid (fun W => within_f day 0 100000 W hD)
        have e : erN s d l ps day n = 7 := by simp [erN, hW, hD]
        rw [e]
        clear hW hD e h hR hU
        subst hv
        generalize ps.length = m at *
        go_enter Try.func82, Try.ntmps82
        go_wp2_with fail
        refine calls_after (HR.out _) ?_
        intro x1
        go_wp2_with fail
        refine calls_after2 (HU.out _ (by (repeat' (first | (with_reducible exact Below.refl _ _) | (with_reducible assumption) | (with_reducible refine Below.alloc ?_ ?_ _) | (with_reducible refine Below.drew ?_) | (with_reducible refine below_drewN ?_ _) | (with_reducible refine Below.setCell ?_ ?_ _) | (with_reducible refine below_after ?_ ?_ _) | (with_reducible refine below_set ?_) | (with_reducible refine After.size_le _ ?_) | (with_reducible refine size_alloc_le ?_) | (with_reducible refine size_set_le ?_) | (with_reducible refine size_drewN_le ?_) | go_size)))) ?_
        intro x2
        go_wp2_with (first | (go_at_call 63; refine (HD.out _).mono ?_; rintro e w1 ⟨rfl, rfl⟩))
        go_ret
        exact ⟨rfl, by (repeat' (first | (with_reducible exact Below.refl _ _) | (with_reducible assumption) | (with_reducible refine Below.alloc ?_ ?_ _) | (with_reducible refine Below.drew ?_) | (with_reducible refine below_drewN ?_ _) | (with_reducible refine Below.setCell ?_ ?_ _) | (with_reducible refine below_after ?_ ?_ _) | (with_reducible refine below_set ?_) | (with_reducible refine After.size_le _ ?_) | (with_reducible refine size_alloc_le ?_) | (with_reducible refine size_set_le ?_) | (with_reducible refine size_drewN_le ?_) | go_size))⟩
    · have HU : Hid (∀ W, Below w.heap.size w W → _) := fun W hW => rvalidUses_v v ps W (prc_on h hW) hl false (by simp [hU])
      have e : erN s d l ps day n = 1 := by simp [erN, GoodW, hU]
      rw [e]
      clear e h hR hU
      subst hv
      generalize ps.length = m at *
      go_enter Try.func82, Try.ntmps82
      go_wp2_with fail
      refine calls_after (HR.out _) ?_
      intro x1
      go_wp2_with fail
      refine calls_after2 (HU.out _ (by (repeat' (first | (with_reducible exact Below.refl _ _) | (with_reducible assumption) | (with_reducible refine Below.alloc ?_ ?_ _) | (with_reducible refine Below.drew ?_) | (with_reducible refine below_drewN ?_ _) | (with_reducible refine Below.setCell ?_ ?_ _) | (with_reducible refine below_after ?_ ?_ _) | (with_reducible refine below_set ?_) | (with_reducible refine After.size_le _ ?_) | (with_reducible refine size_alloc_le ?_) | (with_reducible refine size_set_le ?_) | (with_reducible refine size_drewN_le ?_) | go_size)))) ?_
      intro x2
      go_wp2
      go_ret
      exact ⟨rfl, by (repeat' (first | (with_reducible exact Below.refl _ _) | (with_reducible assumption) | (with_reducible refine Below.alloc ?_ ?_ _) | (with_reducible refine Below.drew ?_) | (with_reducible refine below_drewN ?_ _) | (with_reducible refine Below.setCell ?_ ?_ _) | (with_reducible refine below_after ?_ ?_ _) | (with_reducible refine below_set ?_) | (with_reducible refine After.size_le _ ?_) | (with_reducible refine size_alloc_le ?_) | (with_reducible refine size_set_le ?_) | (with_reducible refine size_drewN_le ?_) | go_size))⟩
  · have HR : Hid (∀ W, Calls Try.prog 43 #[.agg #[.int .i64 s, .int .i64 d, .int .i64 l]] W fun e w' => e = .returned (.bool false) ∧ Below W.heap.size W w') := fun W => by
      have := rvalidRope_any s d l W
      rwa [show decide (GoodR s d l) = false by simp [hR]] at this
    have e : erN s d l ps day n = 1 := by simp [erN, GoodW, hR]
    rw [e]
    clear e h hR
    subst hv
    generalize ps.length = m at *
    go_enter Try.func82, Try.ntmps82
    go_wp2_with fail
    refine calls_after (HR.out _) ?_
    intro x1
    go_wp2
    go_ret
    exact ⟨rfl, by (repeat' (first | (with_reducible exact Below.refl _ _) | (with_reducible assumption) | (with_reducible refine Below.alloc ?_ ?_ _) | (with_reducible refine Below.drew ?_) | (with_reducible refine below_drewN ?_ _) | (with_reducible refine Below.setCell ?_ ?_ _) | (with_reducible refine below_after ?_ ?_ _) | (with_reducible refine below_set ?_) | (with_reducible refine After.size_le _ ?_) | (with_reducible refine size_alloc_le ?_) | (with_reducible refine size_set_le ?_) | (with_reducible refine size_drewN_le ?_) | go_size))⟩
end Go.Proofs.Ytnhkkboddoiinaa
