/- What the library's variables hold; Atoi; readGust. -/
import Derived.Test.YtmhjahljilaijaaDoorTxWdf
import Derived.Test.YtmhjahljilaijaaDoorTxAtoim
import Derived.Test.YtmhjahljilaijaaDoorTxNumb
import Derived.Test.YtmhjahljilaijaaDoorShelf
import Derived.Lib.AppendIntMem
namespace Go.Proofs.YtmhjahljilaijaaDoor.Tx
open Go.Proofs.YtmhjahljilaijaaDoor
open Go.RowKit
attribute [local go_sem] After.cell After.frozen After.lt After.le After.ne After.ne' After.set_eq After.size_set After.lt_add tx_size

structure Stx (W : World) : Prop where
  stw : Stw W
  syn : ∃ tp p, W.var? Tryd.prog "strconv.ErrSyntax" = some #[.iface tp p]
  rng : ∃ tp p, W.var? Tryd.prog "strconv.ErrRange" = some #[.iface tp p]
  low : 3 < W.heap.size ∧ 4 < W.heap.size
theorem Stx.on {W W' : World} (h : Stx W) (hb : Below W.heap.size W W') : Stx W' := by
  obtain ⟨h1, ⟨tp, p, h2⟩, ⟨tq, q, h3⟩, l1, l2⟩ := h
  have hs := hb.size
  exact ⟨h1.on hb, ⟨tp, p, var_onw (g := 3) h2 (by kernel_rfl) l1 hb⟩, ⟨tq, q, var_onw (g := 4) h3 (by kernel_rfl) l2 hb⟩, Nat.lt_of_lt_of_le l1 hs, Nat.lt_of_lt_of_le l2 hs⟩
/-- What Atoi's number is, whatever its error. -/
def atoiV (s : List UInt8) : Int := match Lib.atoiAll s with
  | .ok v => v
  | .«syntax» => 0
  | .range => Lib.atoiSat s
theorem atoiV_in (s : List UInt8) : I64 (atoiV s) := by
  unfold atoiV
  cases h : Lib.atoiAll s with
  | ok v => exact atoi_in h
  | «syntax» => show -9223372036854775808 ≤ (0 : Int) ∧ (0 : Int) ≤ 9223372036854775807; omega
  | range => show -9223372036854775808 ≤ Lib.atoiSat s ∧ Lib.atoiSat s ≤ 9223372036854775807; unfold Lib.atoiSat; split <;> omega
theorem atoiV_itoa {n : Int} (h : I64 n) : atoiV (Lib.itoa n) = n := by unfold atoiV; rw [atoi_itoa h]
theorem atoi_val {s : List UInt8} (hs : s.length ≤ 65536) {w : World} (hS : Stx w) :
    Calls Tryd.prog 34 #[.string (tx s)] w fun e w' => (∃ err, e = .returned (.tuple #[.int .i64 (atoiV s), err]) ∧ (err = .nilIface ∨ ∃ t p, err = .iface t p)) ∧ Below w.heap.size w w' := by
  have hz : (tx s).size = s.length := tx_size s
  unfold atoiV
  cases h : Lib.atoiAll s with
  | ok v =>
    refine (Tryd.strconv_Atoi_ok (tx s) (by omega) v h w).mono ?_
    rintro e w' ⟨rfl, h2⟩
    refine ⟨⟨.nilIface, rfl, .inl rfl⟩, ?_⟩
    rcases h2 with rfl | ⟨t, rfl⟩
    · exact Below.refl _ _
    · exact Lib.bytesWorld_below _ _ _
  | «syntax» =>
    obtain ⟨tp, p, hv⟩ := hS.syn
    refine (Tryd.strconv_Atoi_syntax_var (tx s) (by omega) h tp p w hv).mono ?_
    rintro e w' ⟨N, rfl, _, _, h2⟩
    exact ⟨⟨_, rfl, .inr ⟨_, _, rfl⟩⟩, h2⟩
  | range =>
    obtain ⟨tp, p, hv⟩ := hS.rng
    refine (Tryd.strconv_Atoi_range_var (tx s) (by omega) h tp p w hv).mono ?_
    rintro e w' ⟨N, rfl, _, _, h2⟩
    exact ⟨⟨_, rfl, .inr ⟨_, _, rfl⟩⟩, h2⟩
/-- The program's reading of a word. -/
def rgF (s : List UInt8) : Int := if s = [45] then -1 else atoiV s
theorem rgF_in (s : List UInt8) : I64 (rgF s) := by
  unfold rgF
  split
  · unfold I64; omega
  · exact atoiV_in s
attribute [local go_sem] tx_toList
set_option maxRecDepth 100000 in
theorem readGust_any (s : List UInt8) (hs : s.length ≤ 65536) (w : World) (hS : Stx w) :
    Calls Tryd.prog 18 #[.string (tx s)] w fun e w' => e = .returned (.int .i64 (rgF s)) ∧ Below w.heap.size w w' := by
  have e45 : (⟨#[45]⟩ : ByteArray) = tx [45] := rfl
  have HA := Lib.hid (atoi_val hs hS)
  by_cases h : s = [45]
  · have er : rgF s = -1 := if_pos h
    have hb : (s == [45]) = true := by rw [h]; rfl
    rw [er]
    clear h er hs hS
    go_enter Tryd.func18, Tryd.ntmps18
    go_wp2
    go_ret
    exact ⟨rfl, by (repeat' (first | (with_reducible exact Below.refl _ _) | (with_reducible assumption) | (with_reducible refine Below.alloc ?_ ?_ _) | (with_reducible refine Below.drew ?_) | (with_reducible refine below_drewN ?_ _) | (with_reducible refine Below.setCell ?_ ?_ _) | (with_reducible refine below_after ?_ ?_ _) | (with_reducible refine below_set ?_) | (with_reducible refine After.size_le _ ?_) | (with_reducible refine size_alloc_le ?_) | (with_reducible refine size_set_le ?_) | (with_reducible refine size_drewN_le ?_) | go_size))⟩
  · have er : rgF s = atoiV s := if_neg h
    have hb : (s == [45]) = false := beq_eq_false_iff_ne.2 h
    rw [er]
    clear h er hs hS
    go_enter Tryd.func18, Tryd.ntmps18
    go_wp2_with fail
    refine HA.out.mono ?_
    rintro e w1 ⟨⟨err, rfl, herr⟩, hb1⟩
    have HB := Lib.hid hb1
    clear hb1
    rcases herr with rfl | ⟨t, p, rfl⟩
    · go_wp2
      go_ret
      exact ⟨rfl, HB.out⟩
    · go_wp2
      go_ret
      exact ⟨rfl, HB.out⟩
end Go.Proofs.YtmhjahljilaijaaDoor.Tx
