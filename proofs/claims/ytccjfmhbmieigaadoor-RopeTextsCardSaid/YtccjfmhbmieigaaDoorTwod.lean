/- The program's readUse. -/
import Derived.Test.YtccjfmhbmieigaaDoorTwow
import Derived.Test.YtccjfmhbmieigaaDoorSplitt
import Derived.Deep.RegionWith
import Derived.Deep.DeepCutAuto
namespace Go.Proofs.YtccjfmhbmieigaaDoor
open Go.RowKit Ro
attribute [local go_sem] After.cell After.frozen After.lt After.le After.ne After.ne' After.lt_add tx_size tx_toList

/-- What Atoi's number is, whatever its error. -/
def atoU (s : List UInt8) : Int := match Lib.atoiAll s with
  | .ok v => v
  | .«syntax» => 0
  | .range => Lib.atoiSat s
theorem atoU_in (s : List UInt8) : I64 (atoU s) := by
  unfold atoU
  cases h : Lib.atoiAll s with
  | ok v => exact atoi_in h
  | «syntax» => show -9223372036854775808 ≤ (0 : Int) ∧ (0 : Int) ≤ 9223372036854775807; omega
  | range => show -9223372036854775808 ≤ Lib.atoiSat s ∧ Lib.atoiSat s ≤ 9223372036854775807; unfold Lib.atoiSat; split <;> omega
theorem atoU_itoa {n : Int} (h : I64 n) : atoU (Lib.itoa n) = n := by unfold atoU; rw [atoi_itoa h]
theorem atoiU_val {s : List UInt8} (hs : s.length ≤ 65536) {w : World} (hS : Std w) :
    Calls Tryd.prog 47 #[.string (tx s)] w fun e w' => (∃ err, e = .returned (.tuple #[.int .i64 (atoU s), err]) ∧ (err = .nilIface ∨ ∃ t p, err = .iface t p)) ∧ Below w.heap.size w w' := by
  have hz : (tx s).size = s.length := tx_size s
  unfold atoU
  cases h : Lib.atoiAll s with
  | ok v =>
    refine (Tryd.strconv_Atoi_ok (tx s) (by omega) v h w).mono ?_
    rintro e w' ⟨rfl, h2⟩
    refine ⟨⟨.nilIface, rfl, .inl rfl⟩, ?_⟩
    rcases h2 with rfl | ⟨t, rfl⟩
    · exact Below.refl _ _
    · exact Lib.bytesWorld_below _ _ _
  | «syntax» =>
    obtain ⟨tp, p, hv⟩ := hS.syn
    refine (Tryd.strconv_Atoi_syntax_var (tx s) (by omega) h tp p w hv).mono ?_
    rintro e w' ⟨N, rfl, _, _, h2⟩
    exact ⟨⟨_, rfl, .inr ⟨_, _, rfl⟩⟩, h2⟩
  | range =>
    obtain ⟨tp, p, hv⟩ := hS.rng
    refine (Tryd.strconv_Atoi_range_var (tx s) (by omega) h tp p w hv).mono ?_
    rintro e w' ⟨N, rfl, _, _, h2⟩
    exact ⟨⟨_, rfl, .inr ⟨_, _, rfl⟩⟩, h2⟩
/-- The line without its line feed, cut at the first blank. -/
def trimU (s : List UInt8) : List UInt8 := Lib.trimSuffix s [10]
def fstU (s : List UInt8) : List UInt8 := (Lib.cut (trimU s) [32]).1
def sndU (s : List UInt8) : List UInt8 := (Lib.cut (trimU s) [32]).2.1
theorem trimU_len (s : List UInt8) : (trimU s).length ≤ s.length := by
  unfold trimU Lib.trimSuffix
  split
  · rw [List.length_take]; omega
  · omega
theorem cutU_len (s : List UInt8) : (fstU s).length ≤ s.length ∧ (sndU s).length ≤ s.length := by
  have h := trimU_len s
  unfold fstU sndU
  rcases cut_words 32 (trimU s) with ⟨e, _⟩ | ⟨a, b, e, _, hl⟩
  · rw [e]; simp; omega
  · rw [e]; simp; omega
theorem trimU_line (t : List UInt8) : trimU (t ++ [10]) = t := by
  unfold trimU Lib.trimSuffix Lib.hasSuffix
  rw [if_pos (List.isSuffixOf_iff_suffix.2 ⟨t, rfl⟩)]
  simp
theorem cutU_line (q : Int × Int) : fstU (useL q ++ [10]) = Lib.itoa q.1 ∧ sndU (useL q ++ [10]) = Lib.itoa q.2 := by
  unfold fstU sndU
  rw [trimU_line]
  have hw := words_use q
  rcases cut_words 32 (useL q) with ⟨_, h⟩ | ⟨a, b, e, h, _⟩
  · rw [h] at hw; simp at hw
  · rw [h] at hw
    simp only [List.cons.injEq] at hw
    have hb := words_back 32 _ b (Nat.le_refl _)
    rw [hw.2] at hb
    rw [e]
    exact ⟨hw.1, hb.symm⟩
/-- What readUse answers. -/
def RdU (s : List UInt8) (e : Ending) : Prop := ∃ (p : Int × Int) (ok : Bool), e = .returned (.tuple #[.agg #[.int .i64 p.1, .int .i64 p.2], .bool ok]) ∧ (ok = true → I2 p ∧ s = useL p ++ [10]) ∧ (ok = false → ∀ q, I2 q → s ≠ useL q ++ [10])
def rdP (s : List UInt8) : Int × Int := (atoU (fstU s), atoU (sndU s))
theorem rdP_in (s : List UInt8) : I2 (rdP s) := ⟨atoU_in _, atoU_in _⟩
theorem rdU_of {s : List UInt8} (ok : Bool) (hok : ok = (useL (rdP s) ++ [10] == s)) : ∀ e, e = .returned (.tuple #[.agg #[.int .i64 (rdP s).1, .int .i64 (rdP s).2], .bool ok]) → RdU s e := fun e he => by
  refine ⟨rdP s, ok, he, fun h => ⟨rdP_in s, ?_⟩, fun h q hq e => ?_⟩
  · rw [h] at hok
    exact (beq_iff_eq.1 hok.symm).symm
  · have hp : rdP s = q := by
      unfold rdP
      rw [e, (cutU_line q).1, (cutU_line q).2, atoU_itoa hq.1, atoU_itoa hq.2]
    rw [h, hp, e] at hok
    simp at hok

theorem trim_any (s : List UInt8) (hs : s.length ≤ 65536) (w : World) :
    Calls Tryd.prog 64 #[.string (tx s), .string (tx [10])] w fun e w' => e = .returned (.string (tx (trimU s))) ∧ w' = w :=
  Tryd.strings_TrimSuffix (tx s) (tx [10]) w (by rw [tx_size]; omega)
theorem cutB_any (s : List UInt8) (hs : s.length ≤ 65536) (w : World) (hS : Std w) :
    Calls Tryd.prog 63 #[.string (tx (trimU s)), .string (tx [32])] w fun e w' => (∃ ok, e = .returned (.tuple #[.string (tx (fstU s)), .string (tx (sndU s)), .bool ok])) ∧ Below w.heap.size w w' := by
  have hz : (tx (trimU s)).size = (trimU s).length := tx_size _
  have hl := trimU_len s
  obtain ⟨m, hm⟩ := hS.mx
  refine (Tryd.strings_Cut (tx (trimU s)) (tx [32]) m w (by omega) hm).mono ?_
  rintro e w' ⟨rfl, n, rfl⟩
  exact ⟨⟨_, rfl⟩, by (repeat' (first | (with_reducible exact Below.refl _ _) | (with_reducible assumption) | (with_reducible refine Below.alloc ?_ ?_ _) | (with_reducible refine Below.drew ?_) | (with_reducible refine below_drewN ?_ _) | (with_reducible refine Below.setCell ?_ ?_ _) | (with_reducible refine below_after ?_ ?_ _) | (with_reducible refine below_set ?_) | (with_reducible refine After.size_le _ ?_) | (with_reducible refine size_alloc_le ?_) | (with_reducible refine size_set_le ?_) | (with_reducible refine size_drewN_le ?_) | go_size))⟩

/-- Two numbers in a block of the call's own. -/
structure Has2 (W : World) (B : Nat) (a b : Int) : Prop where
  lt : B < W.heap.size
  g0 : W.cell? ⟨B, 0, none⟩ = some (.int .i64 a)
  g1 : W.cell? ⟨B, 1, none⟩ = some (.int .i64 b)
  free : ∀ o, W.frozen? ⟨B, o, none⟩ = false
theorem Has2.on {W W' : World} {B : Nat} {a b : Int} (h : Has2 W B a b) (hb : Below W.heap.size W W') : Has2 W' B a b :=
  ⟨Nat.lt_of_lt_of_le h.lt hb.size, (hb.cell (p := ⟨B, 0, none⟩) h.lt).trans h.g0, (hb.cell (p := ⟨B, 1, none⟩) h.lt).trans h.g1, fun o => (hb.frozen (p := ⟨B, o, none⟩) h.lt).trans (h.free o)⟩
theorem Has2.drew {W : World} {B : Nat} {a b : Int} (h : Has2 W B a b) : Has2 W.drew B a b := ⟨h.lt, h.g0, h.g1, h.free⟩
theorem has2_new (w : World) (T : TypeId) (a b : Int) : Has2 (w.alloc (.cells #[.int .i64 a, .int .i64 b] T)) w.heap.size a b := ⟨by simp, by simp [go_sem], by simp [go_sem], fun o => by simp [go_sem]⟩
theorem Has2.put {W : World} {B : Nat} {a b : Int} (h : Has2 W B a b) (c d : Int) : Has2 ((W.setCell ⟨B, 0, none⟩ (.int .i64 c)).setCell ⟨B, 1, none⟩ (.int .i64 d)) B c d :=
  ⟨by simpa using h.lt, by rw [World.cell?_setCell_other _ _ _ _ (by simp)]; exact World.cell?_setCell_same _ _ _ h.g0, World.cell?_setCell_same _ _ _ ((World.cell?_setCell_other _ _ _ _ (by simp)).trans h.g1), fun o => by simp [h.free o]⟩
theorem Has2.set0 {W : World} {B : Nat} {a b : Int} (h : Has2 W B a b) (c : Int) : Has2 (W.setCell ⟨B, 0, none⟩ (.int .i64 c)) B c b :=
  ⟨by simpa using h.lt, World.cell?_setCell_same _ _ _ h.g0, (World.cell?_setCell_other _ _ _ _ (by simp)).trans h.g1, fun o => by simp [h.free o]⟩
theorem Has2.set1 {W : World} {B : Nat} {a b : Int} (h : Has2 W B a b) (c : Int) : Has2 (W.setCell ⟨B, 1, none⟩ (.int .i64 c)) B a c :=
  ⟨by simpa using h.lt, (World.cell?_setCell_other _ _ _ _ (by simp)).trans h.g0, World.cell?_setCell_same _ _ _ h.g1, fun o => by simp [h.free o]⟩
theorem Has2.other {W : World} {B : Nat} {a b : Int} (h : Has2 W B a b) {p : Addr} {v : Value} (hp : p.block ≠ B) : Has2 (W.setCell p v) B a b :=
  ⟨by simpa using h.lt, (World.cell?_setCell_other _ _ _ _ (by intro e; rw [e] at hp; exact hp rfl)).trans h.g0, (World.cell?_setCell_other _ _ _ _ (by intro e; rw [e] at hp; exact hp rfl)).trans h.g1, fun o => by simp [h.free o]⟩
/-- What readUse works on: the result's block, the use's block. -/
def AtU (w : World) (a b : Int) (cb : Nat) (W : World) : Prop := Below w.heap.size w W ∧ Has2 W w.heap.size 0 0 ∧ Has2 W cb a b
theorem AtU.drew {w W : World} {a b : Int} {cb : Nat} (h : AtU w a b cb W) : AtU w a b cb W.drew := ⟨h.1.drew, h.2.1.drew, h.2.2.drew⟩
theorem AtU.on {w W W' : World} {a b : Int} {cb : Nat} (h : AtU w a b cb W) (hb : Below W.heap.size W W') : AtU w a b cb W' := ⟨h.1.trans (hb.mono h.1.size), h.2.1.on hb, h.2.2.on hb⟩

set_option maxRecDepth 1000000 in
set_option maxHeartbeats 4000000 in
theorem readUse_any {s : List UInt8} (hs : s.length ≤ 65536) {w : World} (hS : Std w) :
    Calls Tryd.prog 33 #[.string (tx s)] w fun e w' => RdU s e ∧ Below w.heap.size w w' := by
  have HS := Lib.hid (fun W (hW : Below w.heap.size w W) => hS.on hW)
  have HTr := Lib.hid (trim_any s hs)
  have HCu := Lib.hid (fun W (hW : Below w.heap.size w W) => cutB_any s hs W (hS.on hW))
  have hcl := cutU_len s
  have HA := Lib.hid (fun W (hW : Below w.heap.size w W) => atoiU_val (s := fstU s) (by omega) (hS.on hW))
  have HB := Lib.hid (fun W (hW : Below w.heap.size w W) => atoiU_val (s := sndU s) (by omega) (hS.on hW))
  have HW := Lib.hid (fun W (hW : Below w.heap.size w W) => writeUse_any (rdP s) W (rdP_in s) (hS.on hW))
  have HR := Lib.hid (rdU_of (s := s))
  unfold rdP at HW HR
  simp only at HW HR
  clear hS hcl
  generalize atoU (fstU s) = n1 at *
  generalize atoU (sndU s) = n2 at *
  generalize fstU s = t1 at *
  generalize sndU s = t2 at *
  generalize trimU s = t0 at *
  generalize useL (n1, n2) ++ [10] = R at *
  have e32 : (⟨#[32]⟩ : ByteArray) = tx [32] := rfl
  have e10 : (⟨#[10]⟩ : ByteArray) = tx [10] := rfl
  go_enter Tryd.func33, Tryd.ntmps33
  go_wp2_with fail
  refine (HTr.out _).mono ?_
  rintro e1 w1 ⟨rfl, rfl⟩
  go_wp2_with fail
  refine (HCu.out _ (by (repeat' (first | (with_reducible exact Below.refl _ _) | (with_reducible assumption) | (with_reducible refine Below.alloc ?_ ?_ _) | (with_reducible refine Below.drew ?_) | (with_reducible refine below_drewN ?_ _) | (with_reducible refine Below.setCell ?_ ?_ _) | (with_reducible refine below_after ?_ ?_ _) | (with_reducible refine below_set ?_) | (with_reducible refine After.size_le _ ?_) | (with_reducible refine size_alloc_le ?_) | (with_reducible refine size_set_le ?_) | (with_reducible refine size_drewN_le ?_) | go_size)))).mono ?_
  rintro e2 w2 ⟨⟨ok2, rfl⟩, hb2⟩
  have hz2 := (has2_new w 75 0 0).on (hb2.mono (by simp))
  have hbw2 : Below w.heap.size w w2 := Below.trans (b := w.alloc (.cells #[.int .i64 0, .int .i64 0] 75)) (by (repeat' (first | (with_reducible exact Below.refl _ _) | (with_reducible assumption) | (with_reducible refine Below.alloc ?_ ?_ _) | (with_reducible refine Below.drew ?_) | (with_reducible refine below_drewN ?_ _) | (with_reducible refine Below.setCell ?_ ?_ _) | (with_reducible refine below_after ?_ ?_ _) | (with_reducible refine below_set ?_) | (with_reducible refine After.size_le _ ?_) | (with_reducible refine size_alloc_le ?_) | (with_reducible refine size_set_le ?_) | (with_reducible refine size_drewN_le ?_) | go_size))) (hb2.mono (by simp))
  clear hb2 HTr HCu
  go_upto_region 3 with (fail)
  obtain ⟨cb, hcb⟩ : ∃ cb, w2.heap.size = cb := ⟨_, rfl⟩
  obtain ⟨V, hV⟩ : ∃ V, w2.alloc (.cells #[.int .i64 0, .int .i64 0] 75) = V := ⟨_, rfl⟩
  have hAt : AtU w 0 0 cb V := by
    rw [← hV, ← hcb]
    exact ⟨hbw2.alloc hbw2.size _, hz2.on ((Below.refl _ _).alloc (Nat.le_refl _) _), has2_new w2 _ 0 0⟩
  have hne : w.heap.size ≠ cb := by have := hz2.lt; omega
  have hge : w.heap.size ≤ cb := by have := hz2.lt; omega
  rw [hV, hcb]
  clear hV hcb hz2 hbw2
  have HAt := Lib.hid hAt
  clear hAt
  go_wp2_with fail
  refine (HA.out _ HAt.out.1).mono ?_
  rintro e3 w3 ⟨⟨err3, rfl, -⟩, hb3⟩
  have h3 := HAt.out.on hb3
  have g0 := h3.2.2.g0
  have f0 := h3.2.2.free 0
  have HAt4 : Hid (AtU w n1 0 cb (w3.setCell ⟨cb, 0, none⟩ (.int .i64 n1))) := Lib.hid ⟨h3.1.setCell (p := ⟨cb, 0, none⟩) hge _, h3.2.1.other (p := ⟨cb, 0, none⟩) (Ne.symm hne), h3.2.2.set0 n1⟩
  obtain ⟨V4, hV4⟩ : ∃ V4, w3.setCell ⟨cb, 0, none⟩ (.int .i64 n1) = V4 := ⟨_, rfl⟩
  have HV4 := Lib.hid hV4
  rw [hV4] at HAt4
  clear hV4 hb3 h3 HAt HA
  go_upto_region 4 with (fail)
  rw [HV4.out]
  clear HV4 g0 f0
  go_wp2_with fail
  refine (HB.out _ HAt4.out.1).mono ?_
  rintro e5 w5 ⟨⟨err5, rfl, -⟩, hb5⟩
  have h5 := HAt4.out.on hb5
  have g1 := h5.2.2.g1
  have f1 := h5.2.2.free 1
  have HAt6 : Hid (AtU w n1 n2 cb (w5.setCell ⟨cb, 1, none⟩ (.int .i64 n2))) := Lib.hid ⟨h5.1.setCell (p := ⟨cb, 1, none⟩) hge _, h5.2.1.other (p := ⟨cb, 1, none⟩) (Ne.symm hne), h5.2.2.set1 n2⟩
  obtain ⟨V6, hV6⟩ : ∃ V6, w5.setCell ⟨cb, 1, none⟩ (.int .i64 n2) = V6 := ⟨_, rfl⟩
  have HV6 := Lib.hid hV6
  rw [hV6] at HAt6
  clear hV6 hb5 h5 HAt4 HB
  go_upto_region 5 with (fail)
  rw [HV6.out]
  clear HV6 g1 f1
  obtain ⟨d0, d1, df⟩ : V6.cell? ⟨w.heap.size, 0, none⟩ = some (.int .i64 0) ∧ V6.cell? ⟨w.heap.size, 1, none⟩ = some (.int .i64 0) ∧ ∀ o, V6.frozen? ⟨w.heap.size, o, none⟩ = false := ⟨HAt6.out.2.1.g0, HAt6.out.2.1.g1, HAt6.out.2.1.free⟩
  obtain ⟨c0, c1⟩ : V6.cell? ⟨cb, 0, none⟩ = some (.int .i64 n1) ∧ V6.cell? ⟨cb, 1, none⟩ = some (.int .i64 n2) := ⟨HAt6.out.2.2.g0, HAt6.out.2.2.g1⟩
  obtain ⟨ok, hok⟩ : ∃ ok, (R == s) = ok := ⟨_, rfl⟩
  have HOk := Lib.hid hok
  go_region_with (go_at_call 36; refine (HW.out _ (by first | exact HAt6.out.1 | exact HAt6.out.1.drew)).mono ?_; rintro e7 w7 ⟨rfl, hb7⟩; have HAt7 : Hid (AtU w n1 n2 cb w7) := Lib.hid (by first | exact HAt6.out.on hb7 | exact HAt6.out.drew.on hb7); obtain ⟨d0, d1, df⟩ : w7.cell? ⟨w.heap.size, 0, none⟩ = some (.int .i64 0) ∧ w7.cell? ⟨w.heap.size, 1, none⟩ = some (.int .i64 0) ∧ ∀ o, w7.frozen? ⟨w.heap.size, o, none⟩ = false := ⟨HAt7.out.2.1.g0, HAt7.out.2.1.g1, HAt7.out.2.1.free⟩; obtain ⟨c0, c1⟩ : w7.cell? ⟨cb, 0, none⟩ = some (.int .i64 n1) ∧ w7.cell? ⟨cb, 1, none⟩ = some (.int .i64 n2) := ⟨HAt7.out.2.2.g0, HAt7.out.2.2.g1⟩)
  all_goals
    have hX := HAt7.out.2.1.put n1 n2
    have k0 := hX.g0
    have k1 := hX.g1
    go_wp2_with fail
    exact bodyPost_ret (v := .tuple #[.agg #[.int .i64 n1, .int .i64 n2], .bool ok]) (by simp [results, Tryd.results33, go_sem, k0, k1]) rfl ⟨HR.out ok HOk.out.symm _ rfl, (HAt7.out.1.setCell (p := ⟨w.heap.size, 0, none⟩) (Nat.le_refl _) _).setCell (p := ⟨w.heap.size, 1, none⟩) (Nat.le_refl _) _⟩
end Go.Proofs.YtccjfmhbmieigaaDoor
