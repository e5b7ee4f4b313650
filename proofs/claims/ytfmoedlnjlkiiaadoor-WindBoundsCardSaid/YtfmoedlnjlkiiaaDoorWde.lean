/- Kept in the reference. -/
import Derived.Test.YtfmoedlnjlkiiaaDoorWdd
import Derived.Test.YtfmoedlnjlkiiaaDoorWdt
import Derived.Deep.AppendLies
import Derived.OwnWalk
namespace Go.Proofs.YtfmoedlnjlkiiaaDoor
open Go.RowKit
attribute [local go_sem] After.cell After.frozen After.lt After.le After.ne After.ne' After.set_eq After.size_set After.lt_add

theorem cs_apart {n : Nat} {fr to lo hi : Nat → Int} (h : CsOk n fr to lo hi) : ∀ k, k < n → ∀ j, j < k → to j ≤ fr k
  | 0, _, j, hj => absurd hj (by omega)
  | k + 1, hk, j, hj => by
    have h1 : to k ≤ fr (k + 1) := (h (k + 1) hk).1
    rcases Nat.lt_or_ge j k with hjk | hjk
    · have h2 := cs_apart h k (by omega) j hjk
      have h3 := (h k (by omega)).2.1
      omega
    · obtain rfl : j = k := by omega
      exact h1
theorem cs_one {n : Nat} {fr to lo hi : Nat → Int} (h : CsOk n fr to lo hi) {m : Int} {k j : Nat} (hk : k < n) (hj : j < n) (h1 : CIn fr to m k) (h2 : CIn fr to m j) : k = j := by
  unfold CIn at h1 h2
  rcases Nat.lt_trichotomy k j with h3 | h3 | h3
  · have := cs_apart h j hj k h3; omega
  · exact h3
  · have := cs_apart h k hk j h3; omega
/-- A minute whose reading is not as its cast says. -/
def BrkP (n : Nat) (fr to lo hi f : Nat → Int) (i : Nat) : Prop := ∃ k, k < n ∧ CIn fr to i k ∧ 0 ≤ f i ∧ (f i < lo k ∨ hi k < f i)
noncomputable def brk (n : Nat) (fr to lo hi f : Nat → Int) (i : Nat) : Bool := @decide (BrkP n fr to lo hi f i) (Classical.propDecidable _)
theorem brk_iff {n : Nat} {fr to lo hi f : Nat → Int} {i : Nat} : brk n fr to lo hi f i = true ↔ BrkP n fr to lo hi f i := by
  unfold brk
  exact @decide_eq_true_iff _ (Classical.propDecidable _)
theorem brk_in {n : Nat} {fr to lo hi f : Nat → Int} {i k : Nat} (h : CsOk n fr to lo hi) (hk : k < n) (h1 : CIn fr to i k) : brk n fr to lo hi f i = (decide (0 ≤ f i) && (decide (f i < lo k) || decide (hi k < f i))) := by
  rw [Bool.eq_iff_iff, brk_iff]
  simp only [Bool.and_eq_true, Bool.or_eq_true, decide_eq_true_eq]
  constructor
  · rintro ⟨j, hj, h2, h3, h4⟩
    obtain rfl := cs_one h hk hj h1 h2
    exact ⟨h3, h4⟩
  · rintro ⟨h3, h4⟩
    exact ⟨k, hk, h1, h3, h4⟩
theorem brk_out {n : Nat} {fr to lo hi f : Nat → Int} {i : Nat} (h : ∀ k, k < n → ¬ CIn fr to i k) : brk n fr to lo hi f i = false := by
  rw [Bool.eq_false_iff]
  intro hb
  obtain ⟨k, hk, h1, _⟩ := brk_iff.1 hb
  exact h k hk h1
/-- A row of minutes. -/
def mxs (l : List Nat) : List Value := l.map fun k : Nat => .int .i64 k
theorem mxs_snoc (l : List Nat) (k : Nat) : mxs (l ++ [k]) = mxs l ++ [.int .i64 k] := by simp [mxs]
theorem mxs_len (l : List Nat) : (mxs l).length = l.length := by simp [mxs]
theorem first_in (fr to : Nat → Int) (m : Int) : ∀ n : Nat, (∀ k, k < n → ¬ CIn fr to m k) ∨ ∃ k, k < n ∧ CIn fr to m k ∧ ∀ j, j < k → ¬ CIn fr to m j
  | 0 => .inl fun k hk => absurd hk (by omega)
  | n + 1 => by
    rcases first_in fr to m n with h | ⟨k, h1, h2, h3⟩
    · by_cases hn : CIn fr to m n
      · exact .inr ⟨n, by omega, hn, h⟩
      · left
        intro k hk
        rcases Nat.lt_or_ge k n with h1 | h1
        · exact h k h1
        · obtain rfl : k = n := by omega
          exact hn
    · exact .inr ⟨k, by omega, h2, h3⟩
noncomputable def kpE (n : Nat) (fr to lo hi : Nat → Int) (m : Nat) (f : Nat → Int) : Int := if decide (GoodCs n fr to lo hi) && decide (GoodG m f) then 0 else 1
noncomputable def kpL (n : Nat) (fr to lo hi : Nat → Int) (m : Nat) (f : Nat → Int) : List Nat := if decide (GoodCs n fr to lo hi) && decide (GoodG m f) then fl (brk n fr to lo hi f) m else []
set_option maxRecDepth 100000 in
set_option maxHeartbeats 4000000 in
theorem rkept_say (a : Option Addr) (n cap : Nat) (fr to lo hi : Nat → Int) (a' : Option Addr) (m cap' : Nat) (f : Nat → Int) (w : World) (hA : CAt w a n fr to lo hi) (hG : IAt w a' m f) (hn : n ≤ 9223372036854775807) (hm : m ≤ 9223372036854775807) :
    Calls Tryd.prog 48 #[.slice a n cap, .slice a' m cap'] w fun e w' => (∃ v, e = .returned (.tuple #[v, .int .i64 (kpE n fr to lo hi m f)]) ∧ w'.ownsRow w.heap.size 3 1 v (kpL n fr to lo hi m f).length (mxs (kpL n fr to lo hi m f))) ∧ Below w.heap.size w w' := by
  have HV := Lib.hid (rvalidCasts_any a n cap fr to lo hi w hA hn)
  have HV' := Lib.hid (fun W (hW : Below w.heap.size w W) => rvalidGusts_any a' m cap' f W (hG.on hW) hm)
  have HG := Lib.hid hG
  have HA := Lib.hid hA
  unfold kpE kpL
  cases hk : decide (GoodCs n fr to lo hi)
  · rw [hk] at HV
    go_enter Tryd.func48, Tryd.ntmps48
    go_wp2_with fail
    refine calls_after HV.out ?_
    intro x1
    go_wp2
    go_returns
    exact ⟨⟨_, rfl, World.ownsRow_nil _ _ _ _⟩, by (repeat' (first | (with_reducible exact Below.refl _ _) | (with_reducible assumption) | (with_reducible refine Below.alloc ?_ ?_ _) | (with_reducible refine Below.drew ?_) | (with_reducible refine below_drewN ?_ _) | (with_reducible refine Below.setCell ?_ ?_ _) | (with_reducible refine below_after ?_ ?_ _) | (with_reducible refine below_set ?_) | (with_reducible refine After.size_le _ ?_) | (with_reducible refine size_alloc_le ?_) | (with_reducible refine size_set_le ?_) | (with_reducible refine size_drewN_le ?_) | go_size))⟩
  · rw [hk] at HV
    cases hk' : decide (GoodG m f)
    · rw [hk'] at HV'
      go_enter Tryd.func48, Tryd.ntmps48
      go_wp2_with fail
      refine calls_after HV.out ?_
      intro x1
      go_wp2_with fail
      refine calls_after2 (HV'.out _ x1.out) ?_
      intro x2
      go_wp2
      go_returns
      exact ⟨⟨_, rfl, World.ownsRow_nil _ _ _ _⟩, by (repeat' (first | (with_reducible exact Below.refl _ _) | (with_reducible assumption) | (with_reducible refine Below.alloc ?_ ?_ _) | (with_reducible refine Below.drew ?_) | (with_reducible refine below_drewN ?_ _) | (with_reducible refine Below.setCell ?_ ?_ _) | (with_reducible refine below_after ?_ ?_ _) | (with_reducible refine below_set ?_) | (with_reducible refine After.size_le _ ?_) | (with_reducible refine size_alloc_le ?_) | (with_reducible refine size_set_le ?_) | (with_reducible refine size_drewN_le ?_) | go_size))⟩
    · rw [hk'] at HV'
      have hcs := (of_decide_eq_true hk).1
      have hGG := of_decide_eq_true hk'
      have hm2 := hGG.1
      have hmI : (m : Int) ≤ 2000 := by omega
      obtain ⟨i0, hi', hz0, hz1, hz2⟩ := info_parts intInfow
      clear hA hG
      go_enter Tryd.func48, Tryd.ntmps48
      go_wp2_with fail
      refine calls_after HV.out ?_
      intro x1
      go_wp2_with fail
      refine calls_after2 (HV'.out _ x1.out) ?_
      intro x2
      go_wp2
      go_loopw [6, 7, 8, 9] (fun v i _ _ wr => ∃ k : Nat, k ≤ m ∧ i = .int .i64 k ∧ ∃ x : After w, wr = x.w ∧ Hid (x.w.ownsRow w.heap.size 3 1 v (fl (brk n fr to lo hi f) k).length (mxs (fl (brk n fr to lo hi f) k)))) (fun _ i _ _ _ => m - (intOf i).toNat)
      case atStart => exact ⟨0, by omega, rfl, x2, rfl, Lib.hid (World.ownsRow_nil _ _ _ _)⟩
      case round =>
        obtain ⟨i, hin, rfl, x, rfl, HO⟩ := hrel
        by_cases hlt : i < m
        · have hlti : (i : Int) < (m : Int) := by omega
          obtain ⟨b', off', rfl, hb', hc'⟩ := HG.out i hlt
          have hle : (fl (brk n fr to lo hi f) i).length ≤ 2000 := Nat.le_trans (fl_len _ _) (by omega)
          have hfs := fl_succ (brk n fr to lo hi f) i
          rcases first_in fr to i n with hno | ⟨k, hkn, hck, hbk⟩
          · have hfl : Hid (fl (brk n fr to lo hi f) (i + 1) = fl (brk n fr to lo hi f) i) := Lib.hid (by rw [hfs, brk_out hno]; rfl)
            have HC := Lib.hid (castAt_out a n cap fr to lo hi i x.w (HA.out.on x.out) hn hno)
            clear hfs
            go_wp2_with fail
            refine HC.out.mono ?_
            rintro e w3 ⟨rfl, hb3⟩
            have HO2 := Lib.hid (ownsR_stay HO.out hb3)
            obtain ⟨y, rfl⟩ : ∃ y : After w, w3 = y.w := ⟨⟨w3, x.out.trans (hb3.mono x.out.size)⟩, rfl⟩
            clear hb3 HO HC
            have hyb : b' < y.w.heap.size := Nat.lt_of_lt_of_le hb' y.out.size
            have hyb1 : b' < y.w.heap.size + 1 := by omega
            have hybn : b' ≠ y.w.heap.size := by omega
            have e1y : (y.w.alloc (.cells #[.int .i64 0, .int .i64 0, .int .i64 0, .int .i64 0] 95)).cell? ⟨b', off' + i, none⟩ = some (.int .i64 (f i)) := ((y.out.alloc y.out.size (.cells #[.int .i64 0, .int .i64 0, .int .i64 0, .int .i64 0] 95)).cell (p := ⟨b', off' + i, none⟩) hb').trans hc'
            go_wp2_with fail
            refine wp_region_after (by kernel_rfl) (by kernel_rfl) ?_; (repeat (first | go_big_quiet_step ((fail)) | (refine wpQuiet_step (fun K hK => ?_); go_simp; first | (refine hK _ ?_; clear hK K) | (apply Exists.intro; refine ⟨fun x => ?_, hK _ ?_⟩; (fail); clear hK K)))); refine wpQuiet_nil ?_
            intro z
            have HO3 := Lib.hid (ownsR_stay (HO2.out.alloc (.cells #[.int .i64 0, .int .i64 0, .int .i64 0, .int .i64 0] 95)) z.out)
            have hBz : Below w.heap.size w z.w := (y.out.alloc y.out.size (.cells #[.int .i64 0, .int .i64 0, .int .i64 0, .int .i64 0] 95)).trans (z.out.mono (by have := y.out.size; simp; omega))
            obtain ⟨a0, cap0, rfl⟩ := ownsR_shape HO3.out
            have hsz := hBz.size
            go_wp2
            go_roundw
            case rel => exact ⟨i + 1, by omega, by go_num, ⟨z.w, hBz⟩, rfl, Lib.hid (by rw [hfl.out]; exact HO3.out)⟩
            case measure => simp [intOf]; omega
          · rw [brk_in hcs hkn hck] at hfs
            have HC := Lib.hid (castAt_in a n cap fr to lo hi i x.w (HA.out.on x.out) hn k hkn hck hbk)
            clear hck hbk
            cases h1 : decide (0 ≤ f i)
            · have hfl : Hid (fl (brk n fr to lo hi f) (i + 1) = fl (brk n fr to lo hi f) i) := Lib.hid (by rw [hfs, h1]; rfl)
              clear hfs
              go_wp2_with fail
              refine HC.out.mono ?_
              rintro e w3 ⟨rfl, hb3⟩
              have HO2 := Lib.hid (ownsR_stay HO.out hb3)
              obtain ⟨y, rfl⟩ : ∃ y : After w, w3 = y.w := ⟨⟨w3, x.out.trans (hb3.mono x.out.size)⟩, rfl⟩
              clear hb3 HO HC
              have hyb : b' < y.w.heap.size := Nat.lt_of_lt_of_le hb' y.out.size
              have hyb1 : b' < y.w.heap.size + 1 := by omega
              have hybn : b' ≠ y.w.heap.size := by omega
              have e1y : (y.w.alloc (.cells #[.int .i64 (fr k), .int .i64 (to k), .int .i64 (lo k), .int .i64 (hi k)] 95)).cell? ⟨b', off' + i, none⟩ = some (.int .i64 (f i)) := ((y.out.alloc y.out.size (.cells #[.int .i64 (fr k), .int .i64 (to k), .int .i64 (lo k), .int .i64 (hi k)] 95)).cell (p := ⟨b', off' + i, none⟩) hb').trans hc'
              go_wp2_with fail
              refine wp_region_after (by kernel_rfl) (by kernel_rfl) ?_; (repeat (first | go_big_quiet_step ((fail)) | (refine wpQuiet_step (fun K hK => ?_); go_simp; first | (refine hK _ ?_; clear hK K) | (apply Exists.intro; refine ⟨fun x => ?_, hK _ ?_⟩; (fail); clear hK K)))); refine wpQuiet_nil ?_
              intro z
              have HO3 := Lib.hid (ownsR_stay (HO2.out.alloc (.cells #[.int .i64 (fr k), .int .i64 (to k), .int .i64 (lo k), .int .i64 (hi k)] 95)) z.out)
              have hBz : Below w.heap.size w z.w := (y.out.alloc y.out.size (.cells #[.int .i64 (fr k), .int .i64 (to k), .int .i64 (lo k), .int .i64 (hi k)] 95)).trans (z.out.mono (by have := y.out.size; simp; omega))
              obtain ⟨a0, cap0, rfl⟩ := ownsR_shape HO3.out
              have hsz := hBz.size
              go_wp2
              go_roundw
              case rel => exact ⟨i + 1, by omega, by go_num, ⟨z.w, hBz⟩, rfl, Lib.hid (by rw [hfl.out]; exact HO3.out)⟩
              case measure => simp [intOf]; omega
            cases h2 : decide (f i < lo k)
            case true =>
              have hfl : Hid (fl (brk n fr to lo hi f) (i + 1) = fl (brk n fr to lo hi f) i ++ [i]) := Lib.hid (by rw [hfs, h1, h2]; rfl)
              clear hfs
              go_wp2_with fail
              refine HC.out.mono ?_
              rintro e w3 ⟨rfl, hb3⟩
              have HO2 := Lib.hid (ownsR_stay HO.out hb3)
              obtain ⟨y, rfl⟩ : ∃ y : After w, w3 = y.w := ⟨⟨w3, x.out.trans (hb3.mono x.out.size)⟩, rfl⟩
              clear hb3 HO HC
              have hyb : b' < y.w.heap.size := Nat.lt_of_lt_of_le hb' y.out.size
              have hyb1 : b' < y.w.heap.size + 1 := by omega
              have hybn : b' ≠ y.w.heap.size := by omega
              have e1y : (y.w.alloc (.cells #[.int .i64 (fr k), .int .i64 (to k), .int .i64 (lo k), .int .i64 (hi k)] 95)).cell? ⟨b', off' + i, none⟩ = some (.int .i64 (f i)) := ((y.out.alloc y.out.size (.cells #[.int .i64 (fr k), .int .i64 (to k), .int .i64 (lo k), .int .i64 (hi k)] 95)).cell (p := ⟨b', off' + i, none⟩) hb').trans hc'
              go_wp2_with fail
              refine wp_region_after (by kernel_rfl) (by kernel_rfl) ?_; (repeat (first | go_big_quiet_step ((fail)) | (refine wpQuiet_step (fun K hK => ?_); go_simp; first | (refine hK _ ?_; clear hK K) | (apply Exists.intro; refine ⟨fun x => ?_, hK _ ?_⟩; (fail); clear hK K)))); refine wpQuiet_nil ?_
              intro z
              have HO3 := Lib.hid (ownsR_stay (HO2.out.alloc (.cells #[.int .i64 (fr k), .int .i64 (to k), .int .i64 (lo k), .int .i64 (hi k)] 95)) z.out)
              have hBz : Below w.heap.size w z.w := (y.out.alloc y.out.size (.cells #[.int .i64 (fr k), .int .i64 (to k), .int .i64 (lo k), .int .i64 (hi k)] 95)).trans (z.out.mono (by have := y.out.size; simp; omega))
              obtain ⟨a0, cap0, rfl⟩ := ownsR_shape HO3.out
              have hsz := hBz.size
              go_wp2_with (at_builtin; refine wpList_append_own _ rfl _ _ 24 rfl w.heap.size 3 i0 (.int .i64 0) 1 8 Tryd.underlying24 hi' hz0 hz1 hz2 rfl (by decide) _ _ _ rfl (HO3.out.alloc _) ⟨z.w.heap.size, 0, none⟩ 1 1 [.int .i64 i] rfl rfl (World.news_of_block (cs := #[.int .i64 i]) (t := 3) (fr := (0, 0)) (heap_alloc_new z.w _)) (by simp [Value.oneCell']) (by unfold maxLen; omega) (by omega) (by simp; omega) ?_; intro v' w1 hown' hgrow _)
              go_roundw
              case rel => exact ⟨i + 1, by omega, by go_num, ⟨w1, (hBz.alloc hsz _).grown hgrow (by simp; omega) (fun j e => (HO3.out.lt j e).1)⟩, rfl, Lib.hid (by rw [hfl.out, mxs_snoc]; simpa using hown')⟩
              case measure => simp [intOf]; omega
            cases h3 : decide (hi k < f i)
            · have hfl : Hid (fl (brk n fr to lo hi f) (i + 1) = fl (brk n fr to lo hi f) i) := Lib.hid (by rw [hfs, h1, h2, h3]; rfl)
              clear hfs
              go_wp2_with fail
              refine HC.out.mono ?_
              rintro e w3 ⟨rfl, hb3⟩
              have HO2 := Lib.hid (ownsR_stay HO.out hb3)
              obtain ⟨y, rfl⟩ : ∃ y : After w, w3 = y.w := ⟨⟨w3, x.out.trans (hb3.mono x.out.size)⟩, rfl⟩
              clear hb3 HO HC
              have hyb : b' < y.w.heap.size := Nat.lt_of_lt_of_le hb' y.out.size
              have hyb1 : b' < y.w.heap.size + 1 := by omega
              have hybn : b' ≠ y.w.heap.size := by omega
              have e1y : (y.w.alloc (.cells #[.int .i64 (fr k), .int .i64 (to k), .int .i64 (lo k), .int .i64 (hi k)] 95)).cell? ⟨b', off' + i, none⟩ = some (.int .i64 (f i)) := ((y.out.alloc y.out.size (.cells #[.int .i64 (fr k), .int .i64 (to k), .int .i64 (lo k), .int .i64 (hi k)] 95)).cell (p := ⟨b', off' + i, none⟩) hb').trans hc'
              go_wp2_with fail
              refine wp_region_after (by kernel_rfl) (by kernel_rfl) ?_; (repeat (first | go_big_quiet_step ((fail)) | (refine wpQuiet_step (fun K hK => ?_); go_simp; first | (refine hK _ ?_; clear hK K) | (apply Exists.intro; refine ⟨fun x => ?_, hK _ ?_⟩; (fail); clear hK K)))); refine wpQuiet_nil ?_
              intro z
              have HO3 := Lib.hid (ownsR_stay (HO2.out.alloc (.cells #[.int .i64 (fr k), .int .i64 (to k), .int .i64 (lo k), .int .i64 (hi k)] 95)) z.out)
              have hBz : Below w.heap.size w z.w := (y.out.alloc y.out.size (.cells #[.int .i64 (fr k), .int .i64 (to k), .int .i64 (lo k), .int .i64 (hi k)] 95)).trans (z.out.mono (by have := y.out.size; simp; omega))
              obtain ⟨a0, cap0, rfl⟩ := ownsR_shape HO3.out
              have hsz := hBz.size
              go_wp2
              go_roundw
              case rel => exact ⟨i + 1, by omega, by go_num, ⟨z.w, hBz⟩, rfl, Lib.hid (by rw [hfl.out]; exact HO3.out)⟩
              case measure => simp [intOf]; omega
            · have hfl : Hid (fl (brk n fr to lo hi f) (i + 1) = fl (brk n fr to lo hi f) i ++ [i]) := Lib.hid (by rw [hfs, h1, h2, h3]; rfl)
              clear hfs
              go_wp2_with fail
              refine HC.out.mono ?_
              rintro e w3 ⟨rfl, hb3⟩
              have HO2 := Lib.hid (ownsR_stay HO.out hb3)
              obtain ⟨y, rfl⟩ : ∃ y : After w, w3 = y.w := ⟨⟨w3, x.out.trans (hb3.mono x.out.size)⟩, rfl⟩
              clear hb3 HO HC
              have hyb : b' < y.w.heap.size := Nat.lt_of_lt_of_le hb' y.out.size
              have hyb1 : b' < y.w.heap.size + 1 := by omega
              have hybn : b' ≠ y.w.heap.size := by omega
              have e1y : (y.w.alloc (.cells #[.int .i64 (fr k), .int .i64 (to k), .int .i64 (lo k), .int .i64 (hi k)] 95)).cell? ⟨b', off' + i, none⟩ = some (.int .i64 (f i)) := ((y.out.alloc y.out.size (.cells #[.int .i64 (fr k), .int .i64 (to k), .int .i64 (lo k), .int .i64 (hi k)] 95)).cell (p := ⟨b', off' + i, none⟩) hb').trans hc'
              go_wp2_with fail
              refine wp_region_after (by kernel_rfl) (by kernel_rfl) ?_; (repeat (first | go_big_quiet_step ((fail)) | (refine wpQuiet_step (fun K hK => ?_); go_simp; first | (refine hK _ ?_; clear hK K) | (apply Exists.intro; refine ⟨fun x => ?_, hK _ ?_⟩; (fail); clear hK K)))); refine wpQuiet_nil ?_
              intro z
              have HO3 := Lib.hid (ownsR_stay (HO2.out.alloc (.cells #[.int .i64 (fr k), .int .i64 (to k), .int .i64 (lo k), .int .i64 (hi k)] 95)) z.out)
              have hBz : Below w.heap.size w z.w := (y.out.alloc y.out.size (.cells #[.int .i64 (fr k), .int .i64 (to k), .int .i64 (lo k), .int .i64 (hi k)] 95)).trans (z.out.mono (by have := y.out.size; simp; omega))
              obtain ⟨a0, cap0, rfl⟩ := ownsR_shape HO3.out
              have hsz := hBz.size
              go_wp2_with (at_builtin; refine wpList_append_own _ rfl _ _ 24 rfl w.heap.size 3 i0 (.int .i64 0) 1 8 Tryd.underlying24 hi' hz0 hz1 hz2 rfl (by decide) _ _ _ rfl (HO3.out.alloc _) ⟨z.w.heap.size, 0, none⟩ 1 1 [.int .i64 i] rfl rfl (World.news_of_block (cs := #[.int .i64 i]) (t := 3) (fr := (0, 0)) (heap_alloc_new z.w _)) (by simp [Value.oneCell']) (by unfold maxLen; omega) (by omega) (by simp; omega) ?_; intro v' w1 hown' hgrow _)
              go_roundw
              case rel => exact ⟨i + 1, by omega, by go_num, ⟨w1, (hBz.alloc hsz _).grown hgrow (by simp; omega) (fun j e => (HO3.out.lt j e).1)⟩, rfl, Lib.hid (by rw [hfl.out, mxs_snoc]; simpa using hown')⟩
              case measure => simp [intOf]; omega
        · obtain rfl : i = m := by omega
          obtain ⟨a0, cap0, rfl⟩ := ownsR_shape HO.out
          go_wp2
          go_returns
          exact ⟨⟨_, rfl, HO.out⟩, x.out⟩
end Go.Proofs.YtfmoedlnjlkiiaaDoor
