/- GearCalls: the law's walk. P7.5 as mathematics: a batch called back. Called in both. -/
import Derived.Test.YtmbjgaeofkikkaaDoorGfi
import Derived.Test.YtmbjgaeofkikkaaDoorGen
import Derived.Test.YtmbjgaeofkikkaaDoorGmp
import Derived.Test.YtmbjgaeofkikkaaDoorGto
import Derived.Test.YtmbjgaeofkikkaaDoorGtk
import Derived.Test.YtmbjgaeofkikkaaDoorGmy
import Derived.Test.YtmbjgaeofkikkaaDoorGaw
namespace Go.Proofs.YtmbjgaeofkikkaaDoor
open Go.RowKit
attribute [local go_sem] After.cell After.frozen After.lt After.le After.ne After.ne' After.set_eq After.size_set After.lt_add tx_size tx_toList

/-- An item of a batch. -/
def caB (gb : Nat → List UInt8) (bt : List UInt8) (i : Nat) : Bool := decide (gb i = bt)
set_option maxRecDepth 100000 in
set_option maxHeartbeats 2000000 in
theorem called1_any (B C : Nat) (a : Option Addr) (n cap : Nat) (gm : Nat → List UInt8) (gl gd : Nat → Int) (gb : Nat → List UInt8) (bt : List UInt8) (i : Nat) (w : World) (h0 : w.cell? ⟨B, 0, none⟩ = some (.slice a n cap)) (h1 : w.cell? ⟨C, 0, none⟩ = some (.string (tx bt))) (hA : ItAt w a n gm gl gd gb) (hi : i < n) (hn : n ≤ 1000) :
    Calls Tryd.prog 71 #[.int .i64 (i : Nat), .pointer (some ⟨B, 0, none⟩), .pointer (some ⟨C, 0, none⟩)] w fun e w' => e = .returned (.bool (caB gb bt i)) ∧ Below w.heap.size w w' := by
  have hnI : (n : Int) ≤ 1000 := by omega
  have hiI : (i : Int) < (n : Int) := by omega
  obtain ⟨b, off, rfl, hb, _, _, _, c3⟩ := hA i hi
  have s0 := World.block_lt_of_cell? w _ h0
  have s1 := World.block_lt_of_cell? w _ h1
  dsimp only at s0 s1
  unfold caB
  by_cases e : gb i = bt
  · rw [decide_eq_true e]
    rw [e] at c3
    clear hA e
    go_enter Tryd.func71, Tryd.ntmps71
    go_wp2_with fail
    refine wp_region_after (by kernel_rfl) (by kernel_rfl) ?_; (repeat (first | go_big_quiet_step ((fail)) | (refine wpQuiet_step (fun K hK => ?_); go_simp; first | (refine hK _ ?_; clear hK K) | (apply Exists.intro; refine ⟨fun x => ?_, hK _ ?_⟩; (fail); clear hK K)))); refine wpQuiet_nil ?_
    intro y
    go_wp2
    go_ret
    exact ⟨rfl, by (repeat' (first | (with_reducible exact Below.refl _ _) | (with_reducible assumption) | (with_reducible refine Below.alloc ?_ ?_ _) | (with_reducible refine Below.drew ?_) | (with_reducible refine below_drewN ?_ _) | (with_reducible refine Below.setCell ?_ ?_ _) | (with_reducible refine below_after ?_ ?_ _) | (with_reducible refine below_set ?_) | (with_reducible refine After.size_le _ ?_) | (with_reducible refine size_alloc_le ?_) | (with_reducible refine size_set_le ?_) | (with_reducible refine size_drewN_le ?_) | go_size))⟩
  · rw [decide_eq_false e]
    have he : (gb i == bt) = false := by simp [e]
    clear hA e
    go_enter Tryd.func71, Tryd.ntmps71
    go_wp2_with fail
    refine wp_region_after (by kernel_rfl) (by kernel_rfl) ?_; (repeat (first | go_big_quiet_step ((fail)) | (refine wpQuiet_step (fun K hK => ?_); go_simp; first | (refine hK _ ?_; clear hK K) | (apply Exists.intro; refine ⟨fun x => ?_, hK _ ?_⟩; (fail); clear hK K)))); refine wpQuiet_nil ?_
    intro y
    go_wp2
    go_ret
    exact ⟨rfl, by (repeat' (first | (with_reducible exact Below.refl _ _) | (with_reducible assumption) | (with_reducible refine Below.alloc ?_ ?_ _) | (with_reducible refine Below.drew ?_) | (with_reducible refine below_drewN ?_ _) | (with_reducible refine Below.setCell ?_ ?_ _) | (with_reducible refine below_after ?_ ?_ _) | (with_reducible refine below_set ?_) | (with_reducible refine After.size_le _ ?_) | (with_reducible refine size_alloc_le ?_) | (with_reducible refine size_set_le ?_) | (with_reducible refine size_drewN_le ?_) | go_size))⟩
section
variable (a : Option Addr) (n cap : Nat) (gm : Nat → List UInt8) (gl gd : Nat → Int) (gb : Nat → List UInt8) (w : World) (hA : ItAt w a n gm gl gd gb) (hn : n ≤ 1000) (h1 : Sht n gm) (h2 : Sht n gb)
include hA hn h1 h2
set_option maxRecDepth 100000 in
set_option maxHeartbeats 2000000 in
theorem called_say (bt : List UInt8) : Calls Tryd.prog 36 #[.slice a n cap, .string (tx bt)] w fun e w' => EnR (vgB n gm gl gd gb) (thN (caB gb bt) n) w' e ∧ Below w.heap.size w w' := by
  have HV := Lib.hid (fun W (hW : Below w.heap.size w W) => valid_say a n cap gm gl gd gb W (hA.on hW) hn h1 h2)
  have HA := Lib.hid hA
  have Hn := Lib.hid hn
  have hnI : (n : Int) ≤ 1000 := by omega
  clear hA h1 h2 hn
  cases hv : vgB n gm gl gd gb
  · rw [hv] at HV
    clear hv HA Hn
    go_enter Tryd.func36, Tryd.ntmps36
    go_wp2_with fail
    refine calls_after (HV.out _ (by (repeat' (first | (with_reducible exact Below.refl _ _) | (with_reducible assumption) | (with_reducible refine Below.alloc ?_ ?_ _) | (with_reducible refine Below.drew ?_) | (with_reducible refine below_drewN ?_ _) | (with_reducible refine Below.setCell ?_ ?_ _) | (with_reducible refine below_after ?_ ?_ _) | (with_reducible refine below_set ?_) | (with_reducible refine After.size_le _ ?_) | (with_reducible refine size_alloc_le ?_) | (with_reducible refine size_set_le ?_) | (with_reducible refine size_drewN_le ?_) | go_size)))) ?_
    intro x1
    go_wp2
    go_returns
    exact ⟨rfl, by (repeat' (first | (with_reducible exact Below.refl _ _) | (with_reducible assumption) | (with_reducible refine Below.alloc ?_ ?_ _) | (with_reducible refine Below.drew ?_) | (with_reducible refine below_drewN ?_ _) | (with_reducible refine Below.setCell ?_ ?_ _) | (with_reducible refine below_after ?_ ?_ _) | (with_reducible refine below_set ?_) | (with_reducible refine After.size_le _ ?_) | (with_reducible refine size_alloc_le ?_) | (with_reducible refine size_set_le ?_) | (with_reducible refine size_drewN_le ?_) | go_size))⟩
  · rw [hv] at HV
    clear hv
    go_enter Tryd.func36, Tryd.ntmps36
    go_wp2_with fail
    refine (HV.out _ (by (repeat' (first | (with_reducible exact Below.refl _ _) | (with_reducible assumption) | (with_reducible refine Below.alloc ?_ ?_ _) | (with_reducible refine Below.drew ?_) | (with_reducible refine below_drewN ?_ _) | (with_reducible refine Below.setCell ?_ ?_ _) | (with_reducible refine below_after ?_ ?_ _) | (with_reducible refine below_set ?_) | (with_reducible refine After.size_le _ ?_) | (with_reducible refine size_alloc_le ?_) | (with_reducible refine size_set_le ?_) | (with_reducible refine size_drewN_le ?_) | go_size)))).mono ?_
    rintro e w2 ⟨rfl, hb2⟩
    have hs := hb2.size
    simp at hs
    have c0 : w2.cell? ⟨w.heap.size, 0, none⟩ = some (.slice a n cap) := (hb2.cell (p := ⟨w.heap.size, 0, none⟩) (by simp; omega)).trans (by simp [go_sem])
    have c1 : w2.cell? ⟨w.heap.size + 1, 0, none⟩ = some (.string (tx bt)) := (hb2.cell (p := ⟨w.heap.size + 1, 0, none⟩) (by simp)).trans (by simp [go_sem])
    have hB2 : Below w.heap.size w w2 := (((Below.refl _ w).alloc (Nat.le_refl _) (.cells #[.slice a n cap] 22)).alloc (by simp) (.cells #[.string (tx bt)] 9)).trans (hb2.mono (by simp; omega))
    have HTh := Lib.hid (those_any 71 #[] #[.pointer (some ⟨w.heap.size, 0, none⟩), .pointer (some ⟨w.heap.size + 1, 0, none⟩)] (enters_of Tryd.func71 (by kernel_rfl) rfl) n (caB gb bt) w2 (by have := Hn.out; omega) (fun i hi W hW => by
      have on : ∀ {p : Addr} {v : Value}, w2.cell? p = some v → W.cell? p = some v := fun {p v} h => (hW.cell (p := p) (World.block_lt_of_cell? _ _ h)).trans h
      exact called1_any w.heap.size (w.heap.size + 1) a n cap gm gl gd gb bt i W (on c0) (on c1) ((HA.out.on hB2).on hW) hi Hn.out))
    have HB2 := Lib.hid hB2
    clear hb2 hB2 HV
    go_wp2_with fail
    refine HTh.out.mono ?_
    rintro e w6 ⟨v, rfl, hO6, hb6⟩
    have HN := Lib.hid (nat_of hO6)
    have HB6 := Lib.hid (HB2.out.trans (hb6.mono HB2.out.size))
    clear hO6 hb6 HTh
    go_wp2
    go_returns
    exact ⟨⟨_, rfl, HN.out⟩, HB6.out⟩
set_option maxRecDepth 100000 in
set_option maxHeartbeats 2000000 in
theorem rcalled_say (bt : List UInt8) : Calls Tryd.prog 37 #[.slice a n cap, .string (tx bt)] w fun e w' => EnR (vgB n gm gl gd gb) (thN (caB gb bt) n) w' e ∧ Below w.heap.size w w' := by
  have HV := Lib.hid (fun W (hW : Below w.heap.size w W) => rvalid_any a n cap gm gl gd gb W (hA.on hW) hn h1 h2)
  have HA := Lib.hid hA
  have hnI : (n : Int) ≤ 1000 := by omega
  clear hA h1 h2 hn
  cases hv : vgB n gm gl gd gb
  · rw [hv] at HV
    clear hv HA
    go_enter Tryd.func37, Tryd.ntmps37
    go_wp2_with fail
    refine calls_after (HV.out _ (by (repeat' (first | (with_reducible exact Below.refl _ _) | (with_reducible assumption) | (with_reducible refine Below.alloc ?_ ?_ _) | (with_reducible refine Below.drew ?_) | (with_reducible refine below_drewN ?_ _) | (with_reducible refine Below.setCell ?_ ?_ _) | (with_reducible refine below_after ?_ ?_ _) | (with_reducible refine below_set ?_) | (with_reducible refine After.size_le _ ?_) | (with_reducible refine size_alloc_le ?_) | (with_reducible refine size_set_le ?_) | (with_reducible refine size_drewN_le ?_) | go_size)))) ?_
    intro x1
    go_wp2
    go_returns
    exact ⟨rfl, by (repeat' (first | (with_reducible exact Below.refl _ _) | (with_reducible assumption) | (with_reducible refine Below.alloc ?_ ?_ _) | (with_reducible refine Below.drew ?_) | (with_reducible refine below_drewN ?_ _) | (with_reducible refine Below.setCell ?_ ?_ _) | (with_reducible refine below_after ?_ ?_ _) | (with_reducible refine below_set ?_) | (with_reducible refine After.size_le _ ?_) | (with_reducible refine size_alloc_le ?_) | (with_reducible refine size_set_le ?_) | (with_reducible refine size_drewN_le ?_) | go_size))⟩
  · rw [hv] at HV
    clear hv
    obtain ⟨i0, hi0, hz0, hz1, hz2⟩ := info_parts intInfo7
    go_enter Tryd.func37, Tryd.ntmps37
    go_wp2_with fail
    refine (HV.out _ (by (repeat' (first | (with_reducible exact Below.refl _ _) | (with_reducible assumption) | (with_reducible refine Below.alloc ?_ ?_ _) | (with_reducible refine Below.drew ?_) | (with_reducible refine below_drewN ?_ _) | (with_reducible refine Below.setCell ?_ ?_ _) | (with_reducible refine below_after ?_ ?_ _) | (with_reducible refine below_set ?_) | (with_reducible refine After.size_le _ ?_) | (with_reducible refine size_alloc_le ?_) | (with_reducible refine size_set_le ?_) | (with_reducible refine size_drewN_le ?_) | go_size)))).mono ?_
    rintro e w2 ⟨rfl, hb2⟩
    have HB2 := Lib.hid hb2
    clear hb2 HV
    go_wp2
    go_loopw [6, 7] (fun v i W => ∃ k : Nat, k ≤ n ∧ i = .int .i64 k ∧ Hid (W.ownsRow w2.heap.size 3 1 v (thN (caB gb bt) k).length (ivs (thN (caB gb bt) k))) ∧ Hid (Below w2.heap.size w2 W)) (fun _ i _ => n - (intOf i).toNat)
    case atStart => exact ⟨0, Nat.zero_le _, rfl, Lib.hid (World.ownsRow_nil _ _ _ _), Lib.hid (Below.refl _ _)⟩
    case round =>
      obtain ⟨k, hk, rfl, HO, HB⟩ := hrel
      by_cases hlt : k < n
      · have hlti : (k : Int) < (n : Int) := by omega
        obtain ⟨b, off, rfl, hb, _, _, _, c3⟩ := (HA.out.on (HB2.out.trans (HB.out.mono HB2.out.size))) k hlt
        have HL := Lib.hid (thN_len (caB gb bt) k)
        by_cases e : gb k = bt
        · have HS : Hid (thN (caB gb bt) (k + 1) = thN (caB gb bt) k ++ [k]) := Lib.hid (by rw [thN_succ]; unfold caB; rw [decide_eq_true e]; rfl)
          have he : (gb k == bt) = true := by simp [e]
          clear e
          generalize thN (caB gb bt) k = T at *
          go_wp2_with (at_builtin; refine wpList_append_own _ rfl _ _ 30 rfl w2.heap.size 3 i0 (.int .i64 0) 1 8 Tryd.underlying30 hi0 hz0 hz1 hz2 rfl (by decide) _ _ _ rfl (HO.out.alloc _) ⟨wr.heap.size, 0, none⟩ 1 1 [.int .i64 (k : Nat)] rfl rfl (World.news_of_block (cs := #[.int .i64 (k : Nat)]) (t := 3) (fr := (0, 0)) (heap_alloc_new wr _)) (by simp [Value.oneCell']) (by unfold maxLen; have := HL.out; omega) (by have := HL.out; omega) (by have := HB.out.size; simp; omega) ?_; intro v' w8 hown' hgrow _)
          have HB8 := Lib.hid ((HB.out.alloc HB.out.size (.cells #[.int .i64 (k : Nat)] 3)).grown hgrow (by have := HB.out.size; simp; omega) (fun j e => (HO.out.lt j e).1))
          have HO8 := Lib.hid hown'
          clear hown' hgrow
          go_wp2
          go_roundw
          case rel => exact ⟨k + 1, by omega, by go_num, by rw [HS.out, ivs_snoc, List.length_append]; exact HO8, HB8⟩
          case measure => simp [intOf]; omega
        · have HS : Hid (thN (caB gb bt) (k + 1) = thN (caB gb bt) k) := Lib.hid (by rw [thN_succ]; unfold caB; rw [decide_eq_false e]; rfl)
          have he : (gb k == bt) = false := by simp [e]
          clear e
          go_wp2
          go_roundw
          case rel => exact ⟨k + 1, by omega, by go_num, by rw [HS.out]; exact HO, HB⟩
          case measure => simp [intOf]; omega
      · obtain rfl : k = n := by omega
        have HB6 := Lib.hid (HB2.out.trans (HB.out.mono HB2.out.size))
        have HN := Lib.hid (nat_of HO.out)
        go_wp2
        go_returns
        exact ⟨⟨_, rfl, HN.out⟩, HB6.out⟩
end
end Go.Proofs.YtmbjgaeofkikkaaDoor
namespace Go.Proofs.YtmbjgaeofkikkaaDoor
open Go.RowKit

theorem thN_no {p : Nat → Bool} {m : Nat} : (thN p m).length = 0 ↔ ∀ i, i < m → p i = false := by
  unfold thN
  rw [List.length_eq_zero_iff, List.filter_eq_nil_iff]
  constructor
  · intro h i hi
    have := h i (List.mem_range.2 hi)
    simpa using this
  · intro h i hi
    have := h i (List.mem_range.1 hi)
    simp [this]
theorem isSome_iff {g : Nat → List UInt8} {m : Nat} {x : List UInt8} : (fdN g m x).isSome = true ↔ ∃ i, i < m ∧ g i = x := by
  constructor
  · intro h
    obtain ⟨i, hi⟩ := Option.isSome_iff_exists.1 h
    exact ⟨i, (fdN_some.1 hi).1, (fdN_some.1 hi).2.1⟩
  · rintro ⟨i, h1, h2⟩
    cases h : fdN g m x with
    | some j => rfl
    | none => exact absurd h2 (fdN_none.1 h i h1)
theorem wkE_one (b : Bool) (c day : Int) : wkE b 1 c day = wkE b 0 c day := by
  unfold wkE
  rw [if_neg (show ¬ 100 < 1 by omega), if_neg (show ¬ 100 < 0 by omega)]
/-- Called back, a rig may lift nothing if it is touched, and what it might lift before if it isn't. -/
theorem back_may {n m : Nat} {gm lm : Nat → List UInt8} {gl gd : Nat → Int} {gb : Nat → List UInt8} {lf : Nat → Int} {day : Int} {gs gs0 : Nat → List UInt8} {nq : Nat} {lo : Nat → Int} (c : Int) :
    myB c (wkF n gm lm gl gd gb m lf day 1 gs nq lo) m = (myB c (wkF n gm lm gl gd gb m lf day 0 gs0 nq lo) m && !(fdN (fun i => gb (ixO n gm lm i)) m (gs 0)).isSome) := by
  by_cases hc : c = 0
  · subst hc
    unfold myB wkL
    rw [if_pos rfl, if_pos rfl]
    rw [Bool.eq_iff_iff]
    simp only [decide_true, Bool.true_and, decide_eq_true_eq, Bool.and_eq_true, Bool.not_eq_true', thN_no]
    constructor
    · intro h
      refine ⟨fun i hi => ?_, ?_⟩
      · have h1 := h i hi
        unfold wkF wkB at h1 ⊢
        simp only [Bool.or_eq_false_iff] at h1 ⊢
        exact ⟨⟨h1.1.1, rfl⟩, h1.2⟩
      · rw [← Bool.not_eq_true, isSome_iff]
        rintro ⟨i, hi, e⟩
        have h1 := h i hi
        unfold wkF wkB at h1
        simp only [Bool.or_eq_false_iff] at h1
        have h2 := h1.1.2
        rw [← Bool.not_eq_true, isSome_iff] at h2
        exact h2 ⟨0, by omega, e.symm⟩
    · rintro ⟨h, h0⟩ i hi
      have h1 := h i hi
      unfold wkF wkB at h1 ⊢
      simp only [Bool.or_eq_false_iff] at h1 ⊢
      refine ⟨⟨h1.1.1, ?_⟩, h1.2⟩
      rw [← Bool.not_eq_true, isSome_iff]
      rintro ⟨j, hj, e⟩
      obtain rfl : j = 0 := by omega
      rw [← Bool.not_eq_true, isSome_iff] at h0
      exact h0 ⟨i, hi, e.symm⟩
  · unfold myB
    rw [decide_eq_false hc]
    rfl
end Go.Proofs.YtmbjgaeofkikkaaDoor
namespace Go.Proofs.YtmbjgaeofkikkaaDoor
open Go.RowKit
attribute [local go_sem] After.cell After.frozen After.lt After.le After.ne After.ne' After.set_eq After.size_set After.lt_add tx_size tx_toList

theorem after_og7 {W W' : World} (h : Below W.heap.size W W') : ∃ y : After W, W' = y.w := ⟨⟨W', h⟩, rfl⟩
theorem EnR.val {b : Bool} {L : List Nat} {W : World} {e : Ending} (h : EnR b L W e) : ∃ v, e = .returned (.tuple #[v, .int .i64 (erB b)]) ∧ NAt W v (if b then L else []) := by
  cases b
  · exact ⟨_, h, ⟨none, 0, rfl, fun i hi => by simp at hi⟩⟩
  · obtain ⟨v, e1, hz⟩ := h
    exact ⟨v, e1, hz⟩
theorem ToA.val {c : Int} {L : List Nat} {W : World} {e : Ending} (h : ToA c L W e) : ∃ v, e = .returned (.tuple #[v, .int .i64 c]) ∧ NAt W v (if c = 0 then L else []) := by
  rcases h with ⟨h, rfl⟩ | ⟨rfl, v, rfl, h⟩
  · exact ⟨_, rfl, by rw [if_neg h]; exact ⟨none, 0, rfl, fun i hi => by simp at hi⟩⟩
  · exact ⟨v, rfl, h⟩
/-- Does a number stand among the first j of a list? -/
def inL (L : List Nat) (i : Nat) : Nat → Bool
  | 0 => false
  | j + 1 => inL L i j || decide (L.getD j 0 = i)
theorem inL_iff {L : List Nat} {i : Nat} : ∀ j, j ≤ L.length → (inL L i j = true ↔ i ∈ L.take j)
  | 0, _ => by simp [inL]
  | j + 1, h => by
    unfold inL
    rw [Bool.or_eq_true, inL_iff j (by omega), decide_eq_true_eq, List.getD_eq_getElem?_getD, List.getElem?_eq_getElem (by omega), Option.getD_some, List.take_succ_eq_append_getElem (by omega), List.mem_append, List.mem_singleton]
    exact ⟨fun h => h.imp id Eq.symm, fun h => h.imp id Eq.symm⟩
theorem inL_th {p : Nat → Bool} {n i : Nat} (hi : i < n) : inL (thN p n) i (thN p n).length = p i := by
  rw [Bool.eq_iff_iff, inL_iff _ (Nat.le_refl _), List.take_length]
  unfold thN
  rw [List.mem_filter, List.mem_range]
  exact ⟨fun h => h.2, fun h => ⟨hi, h⟩⟩
set_option maxRecDepth 100000 in
set_option maxHeartbeats 4000000 in
theorem gearCalls_any (a : Option Addr) (n cap : Nat) (gm : Nat → List UInt8) (gl gd : Nat → Int) (gb : Nat → List UInt8) (ar : Option Addr) (nr capr : Nat) (R : Nat → Rg) (bt : List UInt8) (day : Int) (aq : Option Addr) (nq cq : Nat) (lo : Nat → Int) (w : World) (hA : ItAt w a n gm gl gd gb) (hR : RgAt w ar nr R) (hRo : RgOk nr R) (hQ : GAt w aq nq lo) (hn : n ≤ 9223372036854775807) (hnr : nr ≤ 9223372036854775807) (hnq : nq ≤ 9223372036854775807) (hbt : bt.length ≤ 9223372036854775807) (h1 : Sht n gm) (h2 : Sht n gb) :
    Calls Tryd.prog 8 #[.slice a n cap, .slice ar nr capr, .string (tx bt), .int .i64 day, .slice aq nq cq] w fun e w' => e = .returned (.bool true) ∧ Below w.heap.size w w' := by
  have L0 : ∀ W, LkAt W none 0 (fun _ => []) (fun _ => 0) := fun W k hk => absurd hk (by omega)
  have I0 : ∀ W, ItAt W none 0 (fun _ => []) (fun _ => 0) (fun _ => 0) (fun _ => []) := fun W k hk => absurd hk (by omega)
  have HM := Lib.hid (fun W (hW : Below w.heap.size w W) => many_any a n cap gm gl gd gb none 0 0 (fun _ => []) (fun _ => 0) W (hA.on hW) (L0 W) hn (by omega))
  have HM2 := Lib.hid (fun k (hk : k < nr) W (hW : Below w.heap.size w W) => many_any none 0 0 (fun _ => []) (fun _ => 0) (fun _ => 0) (fun _ => []) (R k).a (R k).m (R k).cap (R k).lm (R k).lf W (I0 W) (hR.on hW k hk).choose_spec.choose_spec.2.2.2 (by omega) (by have := hRo k hk; omega))
  have P1 := Lib.hid (fun W (hW : Below w.heap.size w W) hn => called_say a n cap gm gl gd gb W (hA.on hW) hn h1 h2 bt)
  have R1 := Lib.hid (fun W (hW : Below w.heap.size w W) hn => rcalled_say a n cap gm gl gd gb W (hA.on hW) hn h1 h2 bt)
  have P2 := Lib.hid (fun W (hW : Below w.heap.size w W) hm hn hnr => taken_say a n cap gm gl gd gb ar nr capr R W (hA.on hW) (hR.on hW) hRo hm hn hnr h1 h2)
  have R2 := Lib.hid (fun W (hW : Below w.heap.size w W) hm hn hnr => rtaken_say a n cap gm gl gd gb ar nr capr R W (hA.on hW) (hR.on hW) hm hn hnr h1 h2)
  have P3 := Lib.hid (fun W (hW : Below w.heap.size w W) hm hn hnr => touched_say a n cap gm gl gd gb ar nr capr R bt W (hA.on hW) (hR.on hW) hRo hm hn hnr h1 h2)
  have R3 := Lib.hid (fun W (hW : Below w.heap.size w W) hm hn hnr => rtouched_say a n cap gm gl gd gb ar nr capr R bt W (hA.on hW) (hR.on hW) hm hn hnr h1 h2)
  have PM := Lib.hid (fun k (hk : k < nr) ak nk ck gs W (hW : Below w.heap.size w W) (hT : TAt W ak nk gs) hn hm hq hk1 => may_any a n cap gm gl gd gb (R k).a (R k).m (R k).cap (R k).lm (R k).lf ak nk ck gs day aq nq cq lo W (hA.on hW) (hR.on hW k hk).choose_spec.choose_spec.2.2.2 hT (hQ.on hW) hn hm (hRo k hk).1 h1 h2 (hRo k hk).2.2 hq hk1)
  have HR := Lib.hid hR
  have hrI : ((nr : Nat) : Int) ≤ 9223372036854775807 := by omega
  have hqI : ((nq : Nat) : Int) ≤ 9223372036854775807 := by omega
  have hbI : ((bt.length : Nat) : Int) ≤ 9223372036854775807 := by omega
  clear hA hR hRo hQ h1 h2 hn hnr hnq hbt L0 I0
  go_enter Tryd.func8, Tryd.ntmps8
  go_wp2_with fail
  refine calls_after (awake_any _) ?_
  intro x1
  go_wp2_with fail
  refine (HM.out _ (by (repeat' (first | (with_reducible exact Below.refl _ _) | (with_reducible assumption) | (with_reducible refine Below.alloc ?_ ?_ _) | (with_reducible refine Below.drew ?_) | (with_reducible refine below_drewN ?_ _) | (with_reducible refine Below.setCell ?_ ?_ _) | (with_reducible refine below_after ?_ ?_ _) | (with_reducible refine below_set ?_) | (with_reducible refine After.size_le _ ?_) | (with_reducible refine size_alloc_le ?_) | (with_reducible refine size_set_le ?_) | (with_reducible refine size_drewN_le ?_) | go_size)))).mono ?_
  rintro e w2 ⟨⟨b, rfl, hbb⟩, hb2⟩
  obtain ⟨x2, rfl⟩ := after_og7 (x1.out.trans (hb2.mono x1.out.size))
  have HBB := Lib.hid hbb
  clear hb2 hbb HM
  cases b
  · have hn1 : n ≤ 1000 := by have := HBB.out rfl; omega
    have Hn := Lib.hid hn1
    clear hn1 HBB
    by_cases hs : (8 : Int) < (nr : Int) ∧ (nr : Int) ≤ 50
    · obtain ⟨hs1, hs2⟩ := hs
      go_wp2
      go_ret
      exact ⟨rfl, by (repeat' (first | (with_reducible exact Below.refl _ _) | (with_reducible assumption) | (with_reducible refine Below.alloc ?_ ?_ _) | (with_reducible refine Below.drew ?_) | (with_reducible refine below_drewN ?_ _) | (with_reducible refine Below.setCell ?_ ?_ _) | (with_reducible refine below_after ?_ ?_ _) | (with_reducible refine below_set ?_) | (with_reducible refine After.size_le _ ?_) | (with_reducible refine size_alloc_le ?_) | (with_reducible refine size_set_le ?_) | (with_reducible refine size_drewN_le ?_) | go_size))⟩
    · have hs' : (decide ((8 : Int) < (nr : Int)) && decide ((nr : Int) ≤ 50)) = false := by
        rw [← Bool.not_eq_true, Bool.and_eq_true, decide_eq_true_eq, decide_eq_true_eq]
        exact hs
      by_cases h60 : (60 : Int) < (nr : Int)
      · have h50 : ¬ (nr : Int) ≤ 50 := by omega
        have h8 : (8 : Int) < (nr : Int) := by omega
        go_wp2
        go_ret
        exact ⟨rfl, by (repeat' (first | (with_reducible exact Below.refl _ _) | (with_reducible assumption) | (with_reducible refine Below.alloc ?_ ?_ _) | (with_reducible refine Below.drew ?_) | (with_reducible refine below_drewN ?_ _) | (with_reducible refine Below.setCell ?_ ?_ _) | (with_reducible refine below_after ?_ ?_ _) | (with_reducible refine below_set ?_) | (with_reducible refine After.size_le _ ?_) | (with_reducible refine size_alloc_le ?_) | (with_reducible refine size_set_le ?_) | (with_reducible refine size_drewN_le ?_) | go_size))⟩
      · by_cases hl : (100 : Int) < (bt.length : Int)
        · go_wp2
          all_goals
            go_ret
            exact ⟨rfl, by (repeat' (first | (with_reducible exact Below.refl _ _) | (with_reducible assumption) | (with_reducible refine Below.alloc ?_ ?_ _) | (with_reducible refine Below.drew ?_) | (with_reducible refine below_drewN ?_ _) | (with_reducible refine Below.setCell ?_ ?_ _) | (with_reducible refine below_after ?_ ?_ _) | (with_reducible refine below_set ?_) | (with_reducible refine After.size_le _ ?_) | (with_reducible refine size_alloc_le ?_) | (with_reducible refine size_set_le ?_) | (with_reducible refine size_drewN_le ?_) | go_size))⟩
        · by_cases h40 : (40 : Int) < (nq : Int)
          · go_wp2
            all_goals
              go_ret
              exact ⟨rfl, by (repeat' (first | (with_reducible exact Below.refl _ _) | (with_reducible assumption) | (with_reducible refine Below.alloc ?_ ?_ _) | (with_reducible refine Below.drew ?_) | (with_reducible refine below_drewN ?_ _) | (with_reducible refine Below.setCell ?_ ?_ _) | (with_reducible refine below_after ?_ ?_ _) | (with_reducible refine below_set ?_) | (with_reducible refine After.size_le _ ?_) | (with_reducible refine size_alloc_le ?_) | (with_reducible refine size_set_le ?_) | (with_reducible refine size_drewN_le ?_) | go_size))⟩
          · have Hq := Lib.hid (show nq ≤ 1000 by omega)
            have hnrI : (nr : Int) ≤ 60 := by omega
            have Hnr := Lib.hid (show nr ≤ 1000 by omega)
            have Hs := Lib.hid hs
            go_wp2
            all_goals
              clear hs hs' h60 hl h40
              go_loopw [11] (fun i W => ∃ k : Nat, k ≤ nr ∧ i = .int .i64 k ∧ Hid (∀ j, j < k → (R j).m ≤ 1000) ∧ Hid (Below w.heap.size w W)) (fun i _ => nr - (intOf i).toNat)
              case atStart => exact ⟨0, Nat.zero_le _, rfl, Lib.hid (fun j hj => by omega), Lib.hid (by (repeat' (first | (with_reducible exact Below.refl _ _) | (with_reducible assumption) | (with_reducible refine Below.alloc ?_ ?_ _) | (with_reducible refine Below.drew ?_) | (with_reducible refine below_drewN ?_ _) | (with_reducible refine Below.setCell ?_ ?_ _) | (with_reducible refine below_after ?_ ?_ _) | (with_reducible refine below_set ?_) | (with_reducible refine After.size_le _ ?_) | (with_reducible refine size_alloc_le ?_) | (with_reducible refine size_set_le ?_) | (with_reducible refine size_drewN_le ?_) | go_size)))⟩
              case round =>
                obtain ⟨k, hk, rfl, HJ, HB⟩ := hrel
                by_cases hlt : k < nr
                · have hlti : (k : Int) < (nr : Int) := by omega
                  obtain ⟨b, off, rfl, hb, c0, _⟩ := (HR.out.on HB.out) k hlt
                  have HMk := Lib.hid (HM2.out k hlt _ HB.out)
                  go_wp2_with fail
                  refine HMk.out.mono ?_
                  rintro e w3 ⟨⟨b', rfl, hbb⟩, hb3⟩
                  have HBB := Lib.hid hbb
                  have HB3 := Lib.hid (HB.out.trans (hb3.mono HB.out.size))
                  clear hb3 hbb HMk
                  cases b'
                  · have HJ1 : Hid (∀ j, j < k + 1 → (R j).m ≤ 1000) := Lib.hid (fun j hj => by
                      by_cases e : j = k
                      · subst e; have := HBB.out rfl; omega
                      · exact HJ.out j (by omega))
                    clear HBB
                    go_wp2
                    go_roundw
                    case rel => exact ⟨k + 1, by omega, by go_num, HJ1, HB3⟩
                    case measure => simp [intOf]; omega
                  · go_wp2
                    go_returns
                    exact ⟨rfl, HB3.out⟩
                · obtain rfl : nr = k := by omega
                  have HB1 := HB
                  clear HM2
                  go_wp2_with fail
                  refine (P1.out _ HB1.out Hn.out).mono ?_
                  rintro e w1a ⟨hr, hb⟩
                  obtain ⟨v1, rfl, hv⟩ := hr.val
                  have HN1 := Lib.hid hv
                  have HB1a := Lib.hid (HB1.out.trans (hb.mono HB1.out.size))
                  clear hr hv hb P1
                  go_wp2_with fail
                  refine (R1.out _ HB1a.out Hn.out).mono ?_
                  rintro e w1b ⟨hr, hb⟩
                  obtain ⟨u1, rfl, hv⟩ := hr.val
                  have HNa1 := Lib.hid (HN1.out.on hb)
                  have HNb1 := Lib.hid hv
                  have HB1b := Lib.hid (HB1a.out.trans (hb.mono HB1a.out.size))
                  clear hr hv hb R1 HN1 HB1a
                  go_wp2_with fail
                  refine (sameInts_any HNa1.out HNb1.out (by split <;> first | (simp; done) | (refine Nat.le_trans (thN_len _ _) ?_; have := Hn.out; have := Hnr.out; omega))).mono ?_
                  rintro e w1c ⟨rfl, hb⟩
                  have HNc1 := Lib.hid (HNa1.out.on hb)
                  have HB2 := Lib.hid (HB1b.out.trans (hb.mono HB1b.out.size))
                  clear hb HNa1 HNb1 HB1b
                  go_wp2_with fail
                  refine (P2.out _ HB2.out HJ.out Hn.out Hnr.out).mono ?_
                  rintro e w2a ⟨hr, hb⟩
                  obtain ⟨v2, rfl, hv⟩ := hr.val
                  have HN2 := Lib.hid hv
                  have HB2a := Lib.hid (HB2.out.trans (hb.mono HB2.out.size))
                  clear hr hv hb P2
                  go_wp2_with fail
                  refine (R2.out _ HB2a.out HJ.out Hn.out Hnr.out).mono ?_
                  rintro e w2b ⟨hr, hb⟩
                  obtain ⟨u2, rfl, hv⟩ := hr.val
                  have HNa2 := Lib.hid (HN2.out.on hb)
                  have HNb2 := Lib.hid hv
                  have HB2b := Lib.hid (HB2a.out.trans (hb.mono HB2a.out.size))
                  clear hr hv hb R2 HN2 HB2a
                  go_wp2_with fail
                  refine (sameInts_any HNa2.out HNb2.out (by split <;> first | (simp; done) | (refine Nat.le_trans (thN_len _ _) ?_; have := Hn.out; have := Hnr.out; omega))).mono ?_
                  rintro e w2c ⟨rfl, hb⟩
                  have HNc2 := Lib.hid (HNa2.out.on hb)
                  have HB3 := Lib.hid (HB2b.out.trans (hb.mono HB2b.out.size))
                  clear hb HNa2 HNb2 HB2b
                  go_wp2_with fail
                  refine (P3.out _ HB3.out HJ.out Hn.out Hnr.out).mono ?_
                  rintro e w3a ⟨hr, hb⟩
                  obtain ⟨v3, rfl, hv⟩ := hr.val
                  have HN3 := Lib.hid hv
                  have HB3a := Lib.hid (HB3.out.trans (hb.mono HB3.out.size))
                  clear hr hv hb P3
                  go_wp2_with fail
                  refine (R3.out _ HB3a.out HJ.out Hn.out Hnr.out).mono ?_
                  rintro e w3b ⟨hr, hb⟩
                  obtain ⟨u3, rfl, hv⟩ := hr.val
                  have HNa3 := Lib.hid (HN3.out.on hb)
                  have HNb3 := Lib.hid hv
                  have HB3b := Lib.hid (HB3a.out.trans (hb.mono HB3a.out.size))
                  clear hr hv hb R3 HN3 HB3a
                  go_wp2_with fail
                  refine (sameInts_any HNa3.out HNb3.out (by split <;> first | (simp; done) | (refine Nat.le_trans (thN_len _ _) ?_; have := Hn.out; have := Hnr.out; omega))).mono ?_
                  rintro e w3c ⟨rfl, hb⟩
                  have HNc3 := Lib.hid (HNa3.out.on hb)
                  have HB4 := Lib.hid (HB3b.out.trans (hb.mono HB3b.out.size))
                  clear hb HNa3 HNb3 HB3b
                  have HTi := Lib.hid (fun k (hk : k < nr) => inL_th (p := fun i => toB n gm gb bt (R i)) hk)
                  have hLl := thN_len (fun i => toB n gm gb bt (R i)) nr
                  generalize hLg : thN (fun i => toB n gm gb bt (R i)) nr = L at *
                  clear hLg
                  generalize hc : oaE (vgB n gm gl gd gb) n gm R nr = c at *
                  clear hc HNc1 HNc2
                  have HBe := Lib.hid (HB4.out)
                  by_cases h0 : c = 0
                  · subst h0
                    rw [if_pos rfl] at HNc3
                    obtain ⟨av, cv, rfl, hvL⟩ := HNc3.out
                    have HvL := Lib.hid hvL
                    have hLI : ((L.length : Nat) : Int) ≤ 60 := by omega
                    clear hvL HNc3 HBe
                    go_wp2
                    go_loopw [16] (fun i W => ∃ k : Nat, k ≤ nr ∧ i = .int .i64 k ∧ Hid (Below w3c.heap.size w3c W)) (fun i _ => nr - (intOf i).toNat)
                    case atStart => exact ⟨0, Nat.zero_le _, rfl, Lib.hid (Below.refl _ _)⟩
                    case round =>
                      obtain ⟨k, hk, rfl, HBk⟩ := hrel
                      have HBl := Lib.hid (HB4.out.trans (HBk.out.mono HB4.out.size))
                      by_cases hlt : k < nr
                      · have hlti : (k : Int) < (nr : Int) := by omega
                        go_wp2
                        go_loopw [17, 18] (fun t j W => ∃ q : Nat, q ≤ L.length ∧ j = .int .i64 q ∧ t = .bool (inL L k q) ∧ W = wr) (fun _ j _ => L.length - (intOf j).toNat)
                        case atStart => exact ⟨0, Nat.zero_le _, rfl, rfl, rfl⟩
                        case round =>
                          obtain ⟨q, hq, rfl, rfl, hW⟩ := hrel
                          subst hW
                          by_cases hql : q < L.length
                          · have hqI : (q : Int) < (L.length : Int) := by omega
                            obtain ⟨bv, offv, rfl, hbv, cv0⟩ := HvL.out q hql
                            have cv0 := (HBk.out.cell (p := ⟨bv, offv + q, none⟩) hbv).trans cv0
                            have HIn : Hid (inL L k (q + 1) = (inL L k q || decide (L.getD q 0 = k))) := Lib.hid rfl
                            generalize L.getD q 0 = z at *
                            cases hs : inL L k q
                            · rw [hs] at HIn
                              clear hs
                              by_cases e : z = k
                              · subst e
                                rw [decide_eq_true rfl] at HIn
                                go_wp2
                                go_roundw
                                case rel => exact ⟨q + 1, by omega, by go_num, by rw [HIn.out]; rfl, by first | rfl | trivial⟩
                                case measure => simp [intOf]; omega
                              · rw [decide_eq_false e] at HIn
                                have he : ((z : Int) == (k : Int)) = false := by simp; omega
                                go_wp2
                                go_roundw
                                case rel => exact ⟨q + 1, by omega, by go_num, by rw [HIn.out]; rfl, by first | rfl | trivial⟩
                                case measure => simp [intOf]; omega
                            · rw [hs] at HIn
                              clear hs
                              go_wp2
                              go_roundw
                              case rel => exact ⟨q + 1, by omega, by go_num, by rw [HIn.out]; rfl, by first | rfl | trivial⟩
                              case measure => simp [intOf]; omega
                          · obtain rfl : q = L.length := by omega
                            have HT := Lib.hid (HTi.out k hlt)
                            obtain ⟨br, offr, rfl, hbr, c0, _⟩ := (HR.out.on HBl.out) k hlt
                            have HM1 := Lib.hid (PM.out k hlt none 0 0 (fun _ => []) wr HBl.out (fun j hj => absurd hj (by omega)) Hn.out (HJ.out k hlt) Hq.out (by omega))
                            have HM2 := Lib.hid (fun W B (hW : Below w.heap.size w W) (hc : W.cell? ⟨B, 0, none⟩ = some (.string (tx bt))) => PM.out k hlt (some ⟨B, 0, none⟩) 1 1 (fun _ => bt) W hW (fun j hj => ⟨B, 0, rfl, World.block_lt_of_cell? W _ hc, by (obtain rfl : j = 0 := (by omega)); exact hc⟩) Hn.out (HJ.out k hlt) Hq.out (by omega))
                            have HBm := Lib.hid (fun c => back_may (n := n) (m := (R k).m) (gm := gm) (lm := (R k).lm) (gl := gl) (gd := gd) (gb := gb) (lf := (R k).lf) (day := day) (gs := fun _ => bt) (gs0 := fun _ => []) (nq := nq) (lo := lo) c)
                            have hE1 := wkE_one (vgB n gm gl gd gb && vrB n (R k).m gm (R k).lm (R k).lf) (brE nq lo (thN (enB (R k).m (R k).lf) (R k).m).length) day
                            rw [hE1, HBm.out] at HM2
                            unfold toB at HT
                            generalize myB (wkE (vgB n gm gl gd gb && vrB n (R k).m gm (R k).lm (R k).lf) 0 (brE nq lo (thN (enB (R k).m (R k).lf) (R k).m).length) day) (wkF n gm (R k).lm gl gd gb (R k).m (R k).lf day 0 (fun _ => []) nq lo) (R k).m = r at *
                            generalize wkE (vgB n gm gl gd gb && vrB n (R k).m gm (R k).lm (R k).lf) 0 (brE nq lo (thN (enB (R k).m (R k).lf) (R k).m).length) day = c1 at *
                            generalize (fdN (fun i => gb (ixO n gm (R k).lm i)) (R k).m bt).isSome = t at *
                            rw [HT.out]
                            clear hE1 HBm HT
                            generalize (R k).a = ra at *
                            generalize (R k).m = rm at *
                            generalize (R k).cap = rc at *
                            go_wp2_with fail
                            refine HM1.out.mono ?_
                            rintro e w4 ⟨rfl, hb4⟩
                            have HB5 := Lib.hid (HBl.out.trans (hb4.mono HBl.out.size))
                            have HBk5 := Lib.hid (HBk.out.trans (hb4.mono HBk.out.size))
                            have c0 := (hb4.cell (p := ⟨br, offr + k, none⟩) hbr).trans c0
                            have hbr := World.block_lt_of_cell? _ _ c0
                            dsimp only at hbr
                            have HM3 := Lib.hid (HM2.out (w4.alloc (.cells #[.string (tx bt)] 9)) w4.heap.size (HB5.out.alloc HB5.out.size _) (by simp [go_sem]))
                            clear hb4 HM1 HM2
                            go_wp2_with fail
                            refine HM3.out.mono ?_
                            rintro e w5 ⟨rfl, hb5⟩
                            have HBk6 := Lib.hid ((HBk5.out.alloc HBk5.out.size (.cells #[.string (tx bt)] 9)).trans (hb5.mono (HBk5.out.alloc HBk5.out.size (.cells #[.string (tx bt)] 9)).size))
                            clear hb5 HM3
                            by_cases hp : c1 = 0
                            · subst hp
                              cases r <;> cases t
                              all_goals
                                go_wp2
                                go_roundw
                                case rel => exact ⟨k + 1, by omega, by go_num, HBk6⟩
                                case measure => simp [intOf]; omega
                            · have hp' : (c1 == 0) = false := by simp [hp]
                              go_wp2
                              go_roundw
                              case rel => exact ⟨k + 1, by omega, by go_num, HBk6⟩
                              case measure => simp [intOf]; omega
                      · obtain rfl : k = nr := by omega
                        go_wp2
                        go_returns
                        exact ⟨rfl, HBl.out⟩
                  · go_wp2
                    go_loopw [16] (fun i W => i = .int .i64 0 ∧ W = w3c) (fun _ _ => 0)
                    case atStart => exact ⟨rfl, rfl⟩
                    case round =>
                      obtain ⟨rfl, hW⟩ := hrel
                      subst hW
                      have h0' : (c == 0) = false := by simp [h0]
                      by_cases hz : (0 : Int) < (nr : Int)
                      · go_wp2
                        go_returns
                        exact ⟨rfl, HBe.out⟩
                      · go_wp2
                        all_goals
                          go_returns
                          exact ⟨rfl, HBe.out⟩
  · go_wp2
    go_ret
    exact ⟨rfl, by (repeat' (first | (with_reducible exact Below.refl _ _) | (with_reducible assumption) | (with_reducible refine Below.alloc ?_ ?_ _) | (with_reducible refine Below.drew ?_) | (with_reducible refine below_drewN ?_ _) | (with_reducible refine Below.setCell ?_ ?_ _) | (with_reducible refine below_after ?_ ?_ _) | (with_reducible refine below_set ?_) | (with_reducible refine After.size_le _ ?_) | (with_reducible refine size_alloc_le ?_) | (with_reducible refine size_set_le ?_) | (with_reducible refine size_drewN_le ?_) | go_size))⟩
end Go.Proofs.YtmbjgaeofkikkaaDoor
