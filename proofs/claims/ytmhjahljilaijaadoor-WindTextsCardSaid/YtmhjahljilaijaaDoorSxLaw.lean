/- WindTexts: the law's walk. -/
import Derived.Test.YtmhjahljilaijaaDoorSxSay
namespace Go.Proofs.YtmhjahljilaijaaDoor.Tx
open Go.Proofs.YtmhjahljilaijaaDoor
open Go.RowKit
attribute [local go_sem] After.cell After.frozen After.lt After.le After.ne After.ne' After.set_eq After.size_set After.lt_add tx_size tx_toList

def Many (n : Nat) : Prop := (300 < n ∧ n ≤ 2000) ∨ 2050 < n
instance (n : Nat) : Decidable (Many n) := by unfold Many; infer_instance
theorem many_any (a : Option Addr) (n cap : Nat) (w : World) :
    Calls Tryd.prog 5 #[.slice a n cap] w fun e w' => e = .returned (.bool (decide (Many n))) ∧ w = w' := by
  by_cases h1 : (300 : Int) < n
  · by_cases h2 : (n : Int) ≤ 2000
    · go_enter Tryd.func5, Tryd.ntmps5
      go_wp2
      go_ret
      exact ⟨ret_dec (by unfold Many; simp; omega), rfl⟩
    · have h2' : decide ((n : Int) ≤ 2000) = false := decide_eq_false h2
      go_enter Tryd.func5, Tryd.ntmps5
      go_wp2
      go_ret
      exact ⟨ret_dec (by unfold Many; simp; omega), rfl⟩
  · have h1' : decide ((300 : Int) < n) = false := decide_eq_false h1
    go_enter Tryd.func5, Tryd.ntmps5
    go_wp2
    go_ret
    exact ⟨ret_dec (by unfold Many; simp; omega), rfl⟩

set_option maxRecDepth 100000 in
set_option maxHeartbeats 1000000 in
theorem sameInts_at (a a' : Option Addr) (n c c' : Nat) (f : Nat → Int) (w : World) (h : IAt w a n f) (h' : IAt w a' n f) (hl : n ≤ 1000000) :
    Calls Tryd.prog 10 #[.slice a n c, .slice a' n c'] w fun e w' => e = .returned (.bool true) ∧ Below w.heap.size w w' := by
  have H1 := Lib.hid h
  have H2 := Lib.hid h'
  have hlI : (n : Int) ≤ 1000000 := by omega
  clear h h'
  go_enter Tryd.func10, Tryd.ntmps10
  go_wp2
  go_loopw [5] (fun i wr => ∃ k : Nat, k ≤ n ∧ i = .int .i64 k ∧ ∃ x : After w, wr = x.w) (fun i _ => n - (intOf i).toNat)
  case atStart => exact ⟨0, by omega, rfl, ⟨w, Below.refl _ _⟩, rfl⟩
  case round =>
    obtain ⟨k, hk, rfl, x, rfl⟩ := hrel
    by_cases hlt : k < n
    · have hlti : (k : Int) < (n : Int) := by omega
      obtain ⟨b, off, rfl, hb, c1⟩ := H1.out k hlt
      obtain ⟨b', off', rfl, hb', d1⟩ := H2.out k hlt
      generalize f k = p at *
      go_wp2
      refine wp_region_after (by kernel_rfl) (by kernel_rfl) ?_; (repeat (first | go_big_quiet_step ((fail)) | (refine wpQuiet_step (fun K hK => ?_); go_simp; first | (refine hK _ ?_; clear hK K) | (apply Exists.intro; refine ⟨fun x => ?_, hK _ ?_⟩; (fail); clear hK K)))); refine wpQuiet_nil ?_
      intro y
      go_wp2
      go_roundw
      case rel => exact ⟨k + 1, by omega, by go_num, ⟨_, x.out.trans (y.out.mono x.out.size)⟩, rfl⟩
      case measure => simp [intOf]; omega
    · obtain rfl : k = n := by omega
      go_wp2
      go_ret
      exact ⟨rfl, by (repeat' (first | (with_reducible exact Below.refl _ _) | (with_reducible assumption) | (with_reducible refine Below.alloc ?_ ?_ _) | (with_reducible refine Below.drew ?_) | (with_reducible refine below_drewN ?_ _) | (with_reducible refine Below.setCell ?_ ?_ _) | (with_reducible refine below_after ?_ ?_ _) | (with_reducible refine below_set ?_) | (with_reducible refine After.size_le _ ?_) | (with_reducible refine size_alloc_le ?_) | (with_reducible refine size_set_le ?_) | (with_reducible refine size_drewN_le ?_) | go_size))⟩

set_option maxRecDepth 100000 in
set_option maxHeartbeats 4000000 in
theorem windTexts_any (a : Option Addr) (n cap : Nat) (f : Nat → Int) (s : List UInt8) (w : World) (hA : IAt w a n f) (hn : n ≤ 9223372036854775807) (hsz : s.length ≤ 9223372036854775807) (hS : Stx w) :
    Calls Tryd.prog 3 #[.slice a n cap, .string (tx s)] w fun e w' => e = .returned (.bool true) ∧ Below w.heap.size w w' := by
  have HAw := Lib.hid (fun W (hW : Below w.heap.size w W) => awake_any W (hS.on hW).stw)
  have HM1 := Lib.hid (fun W => many_any a n cap W)
  have hz : (tx s).size = s.length := tx_size s
  have hsI : (s.length : Int) ≤ 9223372036854775807 := by omega
  by_cases hm : Many n
  · rw [decide_eq_true hm] at HM1
    clear hm hA hn hsz hS
    go_enter Tryd.func3, Tryd.ntmps3
    go_wp2_with fail
    refine calls_after (HAw.out _ (by (repeat' (first | (with_reducible exact Below.refl _ _) | (with_reducible assumption) | (with_reducible refine Below.alloc ?_ ?_ _) | (with_reducible refine Below.drew ?_) | (with_reducible refine below_drewN ?_ _) | (with_reducible refine Below.setCell ?_ ?_ _) | (with_reducible refine below_after ?_ ?_ _) | (with_reducible refine below_set ?_) | (with_reducible refine After.size_le _ ?_) | (with_reducible refine size_alloc_le ?_) | (with_reducible refine size_set_le ?_) | (with_reducible refine size_drewN_le ?_) | go_size)))) ?_
    intro x1
    go_wp2_with (go_at_call 5; refine (HM1.out _).mono ?_; rintro e w1 ⟨rfl, rfl⟩)
    go_ret
    exact ⟨rfl, by (repeat' (first | (with_reducible exact Below.refl _ _) | (with_reducible assumption) | (with_reducible refine Below.alloc ?_ ?_ _) | (with_reducible refine Below.drew ?_) | (with_reducible refine below_drewN ?_ _) | (with_reducible refine Below.setCell ?_ ?_ _) | (with_reducible refine below_after ?_ ?_ _) | (with_reducible refine below_set ?_) | (with_reducible refine After.size_le _ ?_) | (with_reducible refine size_alloc_le ?_) | (with_reducible refine size_set_le ?_) | (with_reducible refine size_drewN_le ?_) | go_size))⟩
  rw [decide_eq_false hm] at HM1
  by_cases h3 : (3000 : Int) < (s.length : Int)
  · have d3 : decide ((3000 : Int) < (s.length : Int)) = true := decide_eq_true h3
    clear hm hA hn hsz hS h3
    go_enter Tryd.func3, Tryd.ntmps3
    go_wp2_with fail
    refine calls_after (HAw.out _ (by (repeat' (first | (with_reducible exact Below.refl _ _) | (with_reducible assumption) | (with_reducible refine Below.alloc ?_ ?_ _) | (with_reducible refine Below.drew ?_) | (with_reducible refine below_drewN ?_ _) | (with_reducible refine Below.setCell ?_ ?_ _) | (with_reducible refine below_after ?_ ?_ _) | (with_reducible refine below_set ?_) | (with_reducible refine After.size_le _ ?_) | (with_reducible refine size_alloc_le ?_) | (with_reducible refine size_set_le ?_) | (with_reducible refine size_drewN_le ?_) | go_size)))) ?_
    intro x1
    go_wp2_with (go_at_call 5; refine (HM1.out _).mono ?_; rintro e w1 ⟨rfl, rfl⟩)
    go_ret
    exact ⟨rfl, by (repeat' (first | (with_reducible exact Below.refl _ _) | (with_reducible assumption) | (with_reducible refine Below.alloc ?_ ?_ _) | (with_reducible refine Below.drew ?_) | (with_reducible refine below_drewN ?_ _) | (with_reducible refine Below.setCell ?_ ?_ _) | (with_reducible refine below_after ?_ ?_ _) | (with_reducible refine below_set ?_) | (with_reducible refine After.size_le _ ?_) | (with_reducible refine size_alloc_le ?_) | (with_reducible refine size_set_le ?_) | (with_reducible refine size_drewN_le ?_) | go_size))⟩
  have d3 : decide ((3000 : Int) < (s.length : Int)) = false := decide_eq_false h3
  have hsl : s.length ≤ 65536 := by omega
  obtain ⟨b, hb⟩ : ∃ b : Bool, b = true ↔ OkT s := ⟨@decide (OkT s) (Classical.propDecidable _), by exact @decide_eq_true_iff _ (Classical.propDecidable _)⟩
  have PF := Lib.hid (fun W (hW : Below w.heap.size w W) => formatG_any a n cap f W (hA.on hW) (hS.on hW).stw)
  have RF := Lib.hid (fun W (hW : Below w.heap.size w W) => rformat_any a n cap f W (hA.on hW) hn)
  have PP := Lib.hid (fun W (hW : Below w.heap.size w W) => parse_say s b hb W hsl (hS.on hW))
  have RP := Lib.hid (fun W (hW : Below w.heap.size w W) => rparse_say s b hb W hsl)
  have RV := Lib.hid (fun W (hW : Below w.heap.size w W) => rvalidGusts_any a n cap f W (hA.on hW) hn)
  have hTl : (formG n f).length ≤ 65536 := by
    unfold formG
    split
    · rename_i hG
      have := jn_len hG (Nat.le_refl n)
      unfold jn at this
      have h2 := hG.1
      unfold Many at hm
      omega
    · simp
  have PT := Lib.hid (fun (h : OkT (formG n f)) W (hW : Below w.heap.size w W) => parse_say (formG n f) true ⟨fun _ => h, fun _ => rfl⟩ W hTl (hS.on hW))
  have PA := Lib.hid (fun (h : b = true) (a1 : Option Addr) (c1 : Nat) W (hW : Below w.heap.size w W) (hin : IAt W a1 (ltT s).length (fun i => (ltT s).getD i 0)) => format_back (hb.1 h) a1 c1 W hin (hS.on hW).stw)
  have HT1 : Hid (decide (GoodG n f) = true → OkT (formG n f) ∧ (ltT (formG n f)).length = n ∧ ∀ i, i < n → (ltT (formG n f)).getD i 0 = f i) := Lib.hid fun h => form_ok (of_decide_eq_true h)
  have HT0 : Hid (decide (GoodG n f) = false → formG n f = []) := Lib.hid fun h => if_neg (of_decide_eq_false h)
  have hll : (ltT s).length ≤ 1000000 := by
    unfold ltT
    split
    · simp
    · rw [rgs_len]; exact Nat.le_trans (wordsL_len 32 s) (by omega)
  have HA := Lib.hid hA
  have HNM : Hid (decide (GoodG n f) = true → n ≤ 1000000) := Lib.hid fun h => by have := (of_decide_eq_true h).1; omega
  clear hA hS hm h3 hsz hTl hb
  unfold txb at PF
  have etx : (⟨(formG n f).toArray⟩ : ByteArray) = tx (formG n f) := rfl
  rw [etx] at PF
  clear etx
  generalize decide (GoodG n f) = gg at *
  generalize formG n f = T at *
  have hTT : (T == T) = true := beq_self_eq_true T
  have hss : (s == s) = true := beq_self_eq_true s
  go_enter Tryd.func3, Tryd.ntmps3
  go_wp2_with fail
  refine calls_after (HAw.out _ (by (repeat' (first | (with_reducible exact Below.refl _ _) | (with_reducible assumption) | (with_reducible refine Below.alloc ?_ ?_ _) | (with_reducible refine Below.drew ?_) | (with_reducible refine below_drewN ?_ _) | (with_reducible refine Below.setCell ?_ ?_ _) | (with_reducible refine below_after ?_ ?_ _) | (with_reducible refine below_set ?_) | (with_reducible refine After.size_le _ ?_) | (with_reducible refine size_alloc_le ?_) | (with_reducible refine size_set_le ?_) | (with_reducible refine size_drewN_le ?_) | go_size)))) ?_
  intro x1
  go_wp2_with (go_at_call 5; refine (HM1.out _).mono ?_; rintro e w1 ⟨rfl, rfl⟩)
  refine calls_after2 (PF.out _ (by (repeat' (first | (with_reducible exact Below.refl _ _) | (with_reducible assumption) | (with_reducible refine Below.alloc ?_ ?_ _) | (with_reducible refine Below.drew ?_) | (with_reducible refine below_drewN ?_ _) | (with_reducible refine Below.setCell ?_ ?_ _) | (with_reducible refine below_after ?_ ?_ _) | (with_reducible refine below_set ?_) | (with_reducible refine After.size_le _ ?_) | (with_reducible refine size_alloc_le ?_) | (with_reducible refine size_set_le ?_) | (with_reducible refine size_drewN_le ?_) | go_size)))) ?_
  intro x2
  go_wp2_with fail
  refine (PP.out _ x2.out).mono ?_
  rintro e w3 ⟨hp, hb3⟩
  have hB3 := Lib.hid (x2.out.trans (hb3.mono x2.out.size))
  cases b
  · have hp' : e = .returned (.tuple #[.slice none 0 0, .int .i64 2]) := hp
    subst hp'
    clear hp hb3 PF PP PA
    obtain ⟨x3, rfl⟩ : ∃ x : After w, w3 = x.w := ⟨⟨w3, hB3.out⟩, rfl⟩
    go_wp2_with fail
    refine (RP.out _ x3.out).mono ?_
    rintro e w4 ⟨hq, hb4⟩
    have hq' : e = .returned (.tuple #[.slice none 0 0, .int .i64 2]) := hq
    subst hq'
    obtain ⟨x4, rfl⟩ : ∃ x : After w, w4 = x.w := ⟨⟨w4, x3.out.trans (hb4.mono x3.out.size)⟩, rfl⟩
    clear hq hb4 RP
    go_wp2_with fail
    refine calls_after2 (RF.out _ x4.out) ?_
    intro x5
    clear RF
    have HSn := Lib.hid (sameInts_at none none 0 0 0 f x5.w (fun k hk => absurd hk (by omega)) (fun k hk => absurd hk (by omega)) (by omega))
    go_wp2_with fail
    refine calls_after2 HSn.out ?_
    intro x6
    clear HSn
    go_wp2_with fail
    refine calls_after2 (RV.out _ (by (repeat' (first | (with_reducible exact Below.refl _ _) | (with_reducible assumption) | (with_reducible refine Below.alloc ?_ ?_ _) | (with_reducible refine Below.drew ?_) | (with_reducible refine below_drewN ?_ _) | (with_reducible refine Below.setCell ?_ ?_ _) | (with_reducible refine below_after ?_ ?_ _) | (with_reducible refine below_set ?_) | (with_reducible refine After.size_le _ ?_) | (with_reducible refine size_alloc_le ?_) | (with_reducible refine size_set_le ?_) | (with_reducible refine size_drewN_le ?_) | go_size)))) ?_
    intro x8
    cases hg : gg
    · have hT := HT0.out hg
      subst hg
      clear HT1 PT
      go_wp2
      go_ret
      exact ⟨by simp [hT], by (repeat' (first | (with_reducible exact Below.refl _ _) | (with_reducible assumption) | (with_reducible refine Below.alloc ?_ ?_ _) | (with_reducible refine Below.drew ?_) | (with_reducible refine below_drewN ?_ _) | (with_reducible refine Below.setCell ?_ ?_ _) | (with_reducible refine below_after ?_ ?_ _) | (with_reducible refine below_set ?_) | (with_reducible refine After.size_le _ ?_) | (with_reducible refine size_alloc_le ?_) | (with_reducible refine size_set_le ?_) | (with_reducible refine size_drewN_le ?_) | go_size))⟩
    · obtain ⟨k1, k2, k3⟩ := HT1.out hg
      subst hg
      have HPT := Lib.hid (PT.out k1 x8.w (by (repeat' (first | (with_reducible exact Below.refl _ _) | (with_reducible assumption) | (with_reducible refine Below.alloc ?_ ?_ _) | (with_reducible refine Below.drew ?_) | (with_reducible refine below_drewN ?_ _) | (with_reducible refine Below.setCell ?_ ?_ _) | (with_reducible refine below_after ?_ ?_ _) | (with_reducible refine below_set ?_) | (with_reducible refine After.size_le _ ?_) | (with_reducible refine size_alloc_le ?_) | (with_reducible refine size_set_le ?_) | (with_reducible refine size_drewN_le ?_) | go_size))))
      clear PT HT0
      go_wp2_with fail
      refine HPT.out.mono ?_
      rintro e w9 ⟨⟨vc, rfl, hvc⟩, hb9⟩
      obtain ⟨ac, cc, rfl, hic⟩ := nrow_in hvc
      have hB9 : Below w.heap.size w w9 := (show Below w.heap.size w x8.w by (repeat' (first | (with_reducible exact Below.refl _ _) | (with_reducible assumption) | (with_reducible refine Below.alloc ?_ ?_ _) | (with_reducible refine Below.drew ?_) | (with_reducible refine below_drewN ?_ _) | (with_reducible refine Below.setCell ?_ ?_ _) | (with_reducible refine below_after ?_ ?_ _) | (with_reducible refine below_set ?_) | (with_reducible refine After.size_le _ ?_) | (with_reducible refine size_alloc_le ?_) | (with_reducible refine size_set_le ?_) | (with_reducible refine size_drewN_le ?_) | go_size))).trans (hb9.mono (show Below w.heap.size w x8.w by (repeat' (first | (with_reducible exact Below.refl _ _) | (with_reducible assumption) | (with_reducible refine Below.alloc ?_ ?_ _) | (with_reducible refine Below.drew ?_) | (with_reducible refine below_drewN ?_ _) | (with_reducible refine Below.setCell ?_ ?_ _) | (with_reducible refine below_after ?_ ?_ _) | (with_reducible refine below_set ?_) | (with_reducible refine After.size_le _ ?_) | (with_reducible refine size_alloc_le ?_) | (with_reducible refine size_set_le ?_) | (with_reducible refine size_drewN_le ?_) | go_size))).size)
      have hic2 : IAt w9 ac n f := fun i hi => by
        obtain ⟨b, off, e, h1, h2⟩ := hic i (by omega)
        exact ⟨b, off, e, h1, by rw [h2]; exact congrArg (fun z => some (Value.int .i64 z)) (k3 i hi)⟩
      have HSi := Lib.hid (sameInts_at ac a n cc cap f w9 hic2 (HA.out.on hB9) (HNM.out (by first | rfl | trivial)))
      have HB9 := Lib.hid hB9
      rw [k2]
      clear hvc hb9 hB9 hic hic2 HPT k1 k2 k3 HT1 HA
      go_wp2_with fail
      refine HSi.out.mono ?_
      rintro e w10 ⟨rfl, hb10⟩
      have HB10 := Lib.hid (HB9.out.trans (hb10.mono HB9.out.size))
      clear hb10
      go_wp2
      go_ret
      exact ⟨by simp, HB10.out⟩
  · obtain ⟨v, rfl, hv⟩ := hp
    obtain ⟨av, cv, rfl, hiv⟩ := nrow_in hv
    obtain ⟨x3, rfl⟩ : ∃ x : After w, w3 = x.w := ⟨⟨w3, hB3.out⟩, rfl⟩
    have HI3 := Lib.hid hiv
    clear hv hb3 PF PP hiv
    go_wp2_with fail
    refine (RP.out _ x3.out).mono ?_
    rintro e w4 ⟨⟨u, rfl, hu⟩, hb4⟩
    obtain ⟨au, cu, rfl, hiu⟩ := nrow_in hu
    have HI4 := Lib.hid (HI3.out.on hb4)
    have HU4 := Lib.hid hiu
    obtain ⟨x4, rfl⟩ : ∃ x : After w, w4 = x.w := ⟨⟨w4, x3.out.trans (hb4.mono x3.out.size)⟩, rfl⟩
    clear hu hb4 RP hiu HI3
    go_wp2_with fail
    refine (RF.out _ x4.out).mono ?_
    rintro e w5 ⟨rfl, hb5⟩
    have HI5 := Lib.hid (HI4.out.on hb5)
    have HU5 := Lib.hid (HU4.out.on hb5)
    obtain ⟨x5, rfl⟩ : ∃ x : After w, w5 = x.w := ⟨⟨w5, x4.out.trans (hb5.mono x4.out.size)⟩, rfl⟩
    clear RF hb5 HI4 HU4
    have HSn := Lib.hid (sameInts_at av au (ltT s).length cv cu _ x5.w HI5.out HU5.out hll)
    go_wp2_with fail
    refine HSn.out.mono ?_
    rintro e w6 ⟨rfl, hb6⟩
    have HPA := Lib.hid (PA.out (by first | rfl | trivial) av cv w6 (x5.out.trans (hb6.mono x5.out.size)) (HI5.out.on hb6))
    obtain ⟨x6, rfl⟩ : ∃ x : After w, w6 = x.w := ⟨⟨w6, x5.out.trans (hb6.mono x5.out.size)⟩, rfl⟩
    clear HSn hb6 PA HI5 HU5
    go_wp2_with fail
    refine calls_after2 HPA.out ?_
    intro x7
    clear HPA
    go_wp2_with fail
    refine calls_after2 (RV.out _ (by (repeat' (first | (with_reducible exact Below.refl _ _) | (with_reducible assumption) | (with_reducible refine Below.alloc ?_ ?_ _) | (with_reducible refine Below.drew ?_) | (with_reducible refine below_drewN ?_ _) | (with_reducible refine Below.setCell ?_ ?_ _) | (with_reducible refine below_after ?_ ?_ _) | (with_reducible refine below_set ?_) | (with_reducible refine After.size_le _ ?_) | (with_reducible refine size_alloc_le ?_) | (with_reducible refine size_set_le ?_) | (with_reducible refine size_drewN_le ?_) | go_size)))) ?_
    intro x8
    cases hg : gg
    · have hT := HT0.out hg
      subst hg
      clear HT1 PT
      go_wp2
      go_ret
      exact ⟨by simp [hT], by (repeat' (first | (with_reducible exact Below.refl _ _) | (with_reducible assumption) | (with_reducible refine Below.alloc ?_ ?_ _) | (with_reducible refine Below.drew ?_) | (with_reducible refine below_drewN ?_ _) | (with_reducible refine Below.setCell ?_ ?_ _) | (with_reducible refine below_after ?_ ?_ _) | (with_reducible refine below_set ?_) | (with_reducible refine After.size_le _ ?_) | (with_reducible refine size_alloc_le ?_) | (with_reducible refine size_set_le ?_) | (with_reducible refine size_drewN_le ?_) | go_size))⟩
    · obtain ⟨k1, k2, k3⟩ := HT1.out hg
      subst hg
      have HPT := Lib.hid (PT.out k1 x8.w (by (repeat' (first | (with_reducible exact Below.refl _ _) | (with_reducible assumption) | (with_reducible refine Below.alloc ?_ ?_ _) | (with_reducible refine Below.drew ?_) | (with_reducible refine below_drewN ?_ _) | (with_reducible refine Below.setCell ?_ ?_ _) | (with_reducible refine below_after ?_ ?_ _) | (with_reducible refine below_set ?_) | (with_reducible refine After.size_le _ ?_) | (with_reducible refine size_alloc_le ?_) | (with_reducible refine size_set_le ?_) | (with_reducible refine size_drewN_le ?_) | go_size))))
      clear PT HT0
      go_wp2_with fail
      refine HPT.out.mono ?_
      rintro e w9 ⟨⟨vc, rfl, hvc⟩, hb9⟩
      obtain ⟨ac, cc, rfl, hic⟩ := nrow_in hvc
      have hB9 : Below w.heap.size w w9 := (show Below w.heap.size w x8.w by (repeat' (first | (with_reducible exact Below.refl _ _) | (with_reducible assumption) | (with_reducible refine Below.alloc ?_ ?_ _) | (with_reducible refine Below.drew ?_) | (with_reducible refine below_drewN ?_ _) | (with_reducible refine Below.setCell ?_ ?_ _) | (with_reducible refine below_after ?_ ?_ _) | (with_reducible refine below_set ?_) | (with_reducible refine After.size_le _ ?_) | (with_reducible refine size_alloc_le ?_) | (with_reducible refine size_set_le ?_) | (with_reducible refine size_drewN_le ?_) | go_size))).trans (hb9.mono (show Below w.heap.size w x8.w by (repeat' (first | (with_reducible exact Below.refl _ _) | (with_reducible assumption) | (with_reducible refine Below.alloc ?_ ?_ _) | (with_reducible refine Below.drew ?_) | (with_reducible refine below_drewN ?_ _) | (with_reducible refine Below.setCell ?_ ?_ _) | (with_reducible refine below_after ?_ ?_ _) | (with_reducible refine below_set ?_) | (with_reducible refine After.size_le _ ?_) | (with_reducible refine size_alloc_le ?_) | (with_reducible refine size_set_le ?_) | (with_reducible refine size_drewN_le ?_) | go_size))).size)
      have hic2 : IAt w9 ac n f := fun i hi => by
        obtain ⟨b, off, e, h1, h2⟩ := hic i (by omega)
        exact ⟨b, off, e, h1, by rw [h2]; exact congrArg (fun z => some (Value.int .i64 z)) (k3 i hi)⟩
      have HSi := Lib.hid (sameInts_at ac a n cc cap f w9 hic2 (HA.out.on hB9) (HNM.out (by first | rfl | trivial)))
      have HB9 := Lib.hid hB9
      rw [k2]
      clear hvc hb9 hB9 hic hic2 HPT k1 k2 k3 HT1 HA
      go_wp2_with fail
      refine HSi.out.mono ?_
      rintro e w10 ⟨rfl, hb10⟩
      have HB10 := Lib.hid (HB9.out.trans (hb10.mono HB9.out.size))
      clear hb10
      go_wp2
      go_ret
      exact ⟨by simp, HB10.out⟩
end Go.Proofs.YtmhjahljilaijaaDoor.Tx
