/- The sixth reference's Number. -/
import Derived.Test.YtkgfaemdgmmdkaaGreatDoorGxSxDig
import Derived.Test.YtkgfaemdgmmdkaaGreatDoorGxNumb
namespace Go.Proofs.YtkgfaemdgmmdkaaGreatDoor.Gx
open Go.Proofs.YtkgfaemdgmmdkaaGreatDoor
open Go.RowKit
attribute [local go_sem] After.cell After.frozen After.lt After.le After.ne After.ne' After.set_eq After.size_set After.lt_add tx_size tx_toList

def In15 (n : Int) : Prop := -1000000000000000 ≤ n ∧ n ≤ 1000000000000000
instance (n : Int) : Decidable (In15 n) := by unfold In15; infer_instance
theorem In15.in18 {n : Int} (h : In15 n) : In18 n := by unfold In15 at h; unfold In18; omega
/-- What Number answers. -/
def NAns6 (s : List UInt8) (e : Ending) : Prop := ∃ (N : Int) (ok : Bool), e = .returned (.tuple #[.int .i64 N, .bool ok]) ∧ (ok = true → In15 N ∧ Lib.itoa N = s) ∧ (ok = false → ∀ n, In15 n → Lib.itoa n ≠ s)
theorem nans6_no {s : List UInt8} (h : ∀ n, In15 n → Lib.itoa n ≠ s) : NAns6 s (.returned (.tuple #[.int .i64 0, .bool false])) := ⟨0, false, rfl, (fun h => by cases h), fun _ => h⟩
theorem not15 {s : List UInt8} (h : ¬ (1 ≤ (bodyL s).length ∧ ∀ c ∈ bodyL s, dgt c)) : ∀ n, In15 n → Lib.itoa n ≠ s := fun n h1 h2 => by
  obtain ⟨a, b, c, _⟩ := read_back h1.in18 h2
  exact h ⟨a, c⟩
theorem nans6_end {s : List UInt8} (z y : Bool) (hz : (Lib.itoa (sgn s (valL (bodyL s))) == s) = z) (hy : decide (In15 (sgn s (valL (bodyL s)))) = y) : NAns6 s (.returned (.tuple #[.int .i64 (sgn s (valL (bodyL s))), .bool (z && y)])) := by
  refine ⟨_, _, rfl, fun h => ?_, fun h n h1 h2 => ?_⟩
  · simp only [Bool.and_eq_true] at h
    obtain ⟨rfl, rfl⟩ := h
    exact ⟨of_decide_eq_true hy, beq_iff_eq.1 hz⟩
  · obtain ⟨-, -, -, h3⟩ := read_back h1.in18 h2
    rw [h3] at hz hy
    rw [← hz, ← hy, h2, decide_eq_true h1] at h
    simp at h
theorem dec_len16 {m : Nat} (h : m ≤ 1000000000000000) : (Lib.decDigits m).length ≤ 16 := by
  have hd := dec_dgt m
  have hv := val_dec m
  have hn := Lib.decDigits_length m
  rcases Nat.lt_or_ge (Lib.decDigits m).length 17 with h1 | h1
  · omega
  · exfalso
    have : ∀ k u : Nat, Lib.nDigits u = k + 1 → 10 ^ k ≤ u ∨ k = 0 := by
      intro k
      induction k with
      | zero => intro u _; exact .inr rfl
      | succ k ih =>
        intro u hu
        by_cases h10 : u < 10
        · rw [Lib.nDigits_small h10] at hu; omega
        · rw [Lib.nDigits_big h10] at hu
          left
          rcases ih (u / 10) (by omega) with h2 | h2
          · rw [Nat.pow_succ]; omega
          · subst h2; simp; omega
    have h2 : 10 ^ 16 ≤ m := by
      rcases this (Lib.nDigits m - 1) m (by have := Lib.nDigits_pos m; omega) with h3 | h3
      · exact Nat.le_trans (Nat.pow_le_pow_right (by decide) (by omega)) h3
      · omega
    have : (10 : Nat) ^ 16 = 10000000000000000 := by decide
    omega
theorem itoa_len17 {n : Int} (h : In15 n) : 1 ≤ (Lib.itoa n).length ∧ (Lib.itoa n).length ≤ 17 := by
  unfold In15 at h
  unfold Lib.itoa
  split
  · have := dec_len16 (m := n.natAbs) (by omega)
    simp; omega
  · have := dec_len16 (m := n.toNat) (by omega)
    have := dec_pos n.toNat
    omega
theorem ret_dec6 {p : Prop} [Decidable p] {a : Bool} (h : a = true ↔ p) : Ending.returned (.bool a) = .returned (.bool (decide p)) := by
  by_cases hp : p
  · simp [hp, h.2 hp]
  · have : a = false := by cases a with | false => rfl | true => exact absurd (h.1 rfl) hp
    simp [hp, this]
def B6 (n a b : Int) : Prop := a ≤ n ∧ n ≤ b
instance (n a b : Int) : Decidable (B6 n a b) := by unfold B6; infer_instance
theorem within6_any (n a b : Int) (w : World) :
    Calls Tryz.prog 42 #[.int .i64 n, .int .i64 a, .int .i64 b] w fun e w' => e = .returned (.bool (decide (B6 n a b))) ∧ w = w' := by
  go_enter Tryz.func42, Tryz.ntmps42
  go_wp2
  all_goals
    go_ret
    exact ⟨ret_dec6 (by unfold B6; simp; omega), rfl⟩
set_option maxRecDepth 100000 in
set_option maxHeartbeats 4000000 in
theorem num6_plain (s : List UInt8) (c0 : UInt8) (t : List UInt8) (w : World) (hst : s = c0 :: t) (h0 : c0 ≠ 45) (hl : s.length ≤ 17) :
    Calls Tryz.prog 23 #[.string (tx s)] w fun e w' => NAns6 s e ∧ Below w.heap.size w w' := by
  obtain ⟨M, hM⟩ : ∃ M : Nat, M = 0 := ⟨_, rfl⟩
  have HM : Hid (s.drop M = bodyL s) := Lib.hid (by rw [hM, hst, bodyL_plain _ h0]; rfl)
  have HSg : Hid (sgn s (valL (bodyL s)) = ((valL (bodyL s) : Nat) : Int)) := Lib.hid (by unfold sgn; rw [if_neg (by rw [hst]; simpa using h0)])
  have hix0 : ∀ w : World, (Instr.index 9 (.string (tx s)) (.int .i64 0)).run Tryz.prog w = .ok (.int .u8 (c0.toNat : Nat)) w := fun w => run_tx_index (P := Tryz.prog) w Tryz.underlying9 s 0 c0 (by rw [hst]; rfl)
  have e0 : (((c0.toNat : Nat) : Int) == 45) = false := by
    rw [beq_eq_false_iff_ne]
    intro h
    exact h0 (UInt8.toNat_inj.1 (by simpa using (by omega : c0.toNat = 45)))
  have hne : (s == []) = false := by rw [hst]; rfl
  have hsl : (s.length : Int) ≤ 17 := by omega
  have d1 : decide ((17 : Int) < (s.length : Int)) = false := decide_eq_false (by omega)
  have hpos : 0 < s.length := by rw [hst]; simp
  have e00 : (⟨#[]⟩ : ByteArray) = tx [] := rfl
  clear hst h0
  go_enter Tryz.func23, Tryz.ntmps23
  go_wp2_with fail
  refine wp_region_after (by kernel_rfl) (by kernel_rfl) ?_; (repeat (first | go_big_quiet_step ((fail)) | (refine wpQuiet_step (fun K hK => ?_); go_simp; first | (refine hK _ ?_; clear hK K) | (apply Exists.intro; refine ⟨fun x => ?_, hK _ ?_⟩; (fail); clear hK K)))); refine wpQuiet_nil ?_
  intro x
  go_wp2
  go_loopw [4, 6] (fun n i wr => ∃ k : Nat, k ≤ s.length ∧ i = .int .i64 k ∧ n = .int .i64 (valL ((s.take k).drop M) : Nat) ∧ (∀ c ∈ (s.take k).drop M, dgt c) ∧ wr = x.w) (fun _ i _ => s.length - (intOf i).toNat)
  case atStart => exact ⟨0, by omega, rfl, by simp [valL], by simp, rfl⟩
  case round =>
    obtain ⟨k, hk, rfl, rfl, hd, rfl⟩ := hrel
    by_cases hlt : k < s.length
    · have hkn : (k : Int) < (s.length : Int) := by omega
      have hMk : M ≤ k := by omega
      cases hk0 : ((k : Int) == 0)
      · skip
        obtain ⟨c, hc⟩ : ∃ c, s[k]? = some c := ⟨_, List.getElem?_eq_getElem hlt⟩
        have htk : (s.take (k + 1)).drop M = (s.take k).drop M ++ [c] := by
          rw [List.take_add_one, hc, List.drop_append_of_le_length (by rw [List.length_take]; omega)]; rfl
        have hix := fun w => run_tx_index (P := Tryz.prog) w Tryz.underlying9 s k c hc
        have hb := val_bd (l := (s.take k).drop M) (by rw [List.length_drop, List.length_take]; omega) hd
        have hsn := valL_snoc ((s.take k).drop M) c
        rw [← htk] at hsn
        have HSN := Lib.hid hsn
        have HTK := Lib.hid htk
        have HDg := Lib.hid hd
        have hcb : c.toNat < 256 := c.toNat_lt
        have hmem : c ∈ bodyL s := by
          have h1 : s.drop M = bodyL s := HM.out
          rw [← h1]
          exact List.mem_iff_getElem?.2 ⟨k - M, by rw [List.getElem?_drop, show M + (k - M) = k by omega]; exact hc⟩
        clear hsn htk hd
        by_cases h48 : c.toNat < 48
        · have hno := Lib.hid (nans6_no (s := s) (not15 (fun h => by have := h.2 c hmem; unfold dgt at this; omega)))
          have e1 : decide (((c.toNat : Nat) : Int) < 48) = true := decide_eq_true (by omega)
          clear hmem
          generalize valL ((s.take k).drop M) = V at *
          generalize c.toNat = C at *
          go_wp2
          go_returns
          exact ⟨hno.out, by (repeat' (first | (with_reducible exact Below.refl _ _) | (with_reducible assumption) | (with_reducible refine Below.alloc ?_ ?_ _) | (with_reducible refine Below.drew ?_) | (with_reducible refine below_drewN ?_ _) | (with_reducible refine Below.setCell ?_ ?_ _) | (with_reducible refine below_after ?_ ?_ _) | (with_reducible refine below_set ?_) | (with_reducible refine After.size_le _ ?_) | (with_reducible refine size_alloc_le ?_) | (with_reducible refine size_set_le ?_) | (with_reducible refine size_drewN_le ?_) | go_size))⟩
        · by_cases h57 : 57 < c.toNat
          · have hno := Lib.hid (nans6_no (s := s) (not15 (fun h => by have := h.2 c hmem; unfold dgt at this; omega)))
            have e1 : decide (((c.toNat : Nat) : Int) < 48) = false := decide_eq_false (by omega)
            have e2 : decide ((57 : Int) < ((c.toNat : Nat) : Int)) = true := decide_eq_true (by omega)
            clear hmem
            generalize valL ((s.take k).drop M) = V at *
            generalize c.toNat = C at *
            go_wp2
            go_returns
            exact ⟨hno.out, by (repeat' (first | (with_reducible exact Below.refl _ _) | (with_reducible assumption) | (with_reducible refine Below.alloc ?_ ?_ _) | (with_reducible refine Below.drew ?_) | (with_reducible refine below_drewN ?_ _) | (with_reducible refine Below.setCell ?_ ?_ _) | (with_reducible refine below_after ?_ ?_ _) | (with_reducible refine below_set ?_) | (with_reducible refine After.size_le _ ?_) | (with_reducible refine size_alloc_le ?_) | (with_reducible refine size_set_le ?_) | (with_reducible refine size_drewN_le ?_) | go_size))⟩
          · have e1 : decide (((c.toNat : Nat) : Int) < 48) = false := decide_eq_false (by omega)
            have e2 : decide ((57 : Int) < ((c.toNat : Nat) : Int)) = false := decide_eq_false (by omega)
            have HD2 : Hid (∀ x ∈ (s.take (k + 1)).drop M, dgt x) := Lib.hid (fun x hx => by
              rw [HTK.out] at hx
              rcases List.mem_append.1 hx with h | h
              · exact HDg.out x h
              · rw [List.mem_singleton.1 h]; unfold dgt; omega)
            have w1 : IntKind.u8.wrap (((c.toNat : Nat) : Int) - 48) = ((c.toNat : Nat) : Int) - 48 := by
              have h1 : (0 : Int) ≤ ((c.toNat : Nat) : Int) - 48 := by omega
              have h2 : ((c.toNat : Nat) : Int) - 48 < 256 := by omega
              exact wrap_u8_in h1 h2
            clear hmem
            generalize valL ((s.take k).drop M) = V at *
            generalize c.toNat = C at *
            go_wp2
            go_roundw
            case rel => exact ⟨k + 1, by omega, by go_num, by rw [HSN.out]; congr 1; omega, HD2.out, by trivial⟩
            case measure => simp [intOf]; omega
      · skip
        obtain ⟨c, hc⟩ : ∃ c, s[k]? = some c := ⟨_, List.getElem?_eq_getElem hlt⟩
        have htk : (s.take (k + 1)).drop M = (s.take k).drop M ++ [c] := by
          rw [List.take_add_one, hc, List.drop_append_of_le_length (by rw [List.length_take]; omega)]; rfl
        have hix := fun w => run_tx_index (P := Tryz.prog) w Tryz.underlying9 s k c hc
        have hb := val_bd (l := (s.take k).drop M) (by rw [List.length_drop, List.length_take]; omega) hd
        have hsn := valL_snoc ((s.take k).drop M) c
        rw [← htk] at hsn
        have HSN := Lib.hid hsn
        have HTK := Lib.hid htk
        have HDg := Lib.hid hd
        have hcb : c.toNat < 256 := c.toNat_lt
        have hmem : c ∈ bodyL s := by
          have h1 : s.drop M = bodyL s := HM.out
          rw [← h1]
          exact List.mem_iff_getElem?.2 ⟨k - M, by rw [List.getElem?_drop, show M + (k - M) = k by omega]; exact hc⟩
        clear hsn htk hd
        by_cases h48 : c.toNat < 48
        · have hno := Lib.hid (nans6_no (s := s) (not15 (fun h => by have := h.2 c hmem; unfold dgt at this; omega)))
          have e1 : decide (((c.toNat : Nat) : Int) < 48) = true := decide_eq_true (by omega)
          clear hmem
          generalize valL ((s.take k).drop M) = V at *
          generalize c.toNat = C at *
          go_wp2
          go_returns
          exact ⟨hno.out, by (repeat' (first | (with_reducible exact Below.refl _ _) | (with_reducible assumption) | (with_reducible refine Below.alloc ?_ ?_ _) | (with_reducible refine Below.drew ?_) | (with_reducible refine below_drewN ?_ _) | (with_reducible refine Below.setCell ?_ ?_ _) | (with_reducible refine below_after ?_ ?_ _) | (with_reducible refine below_set ?_) | (with_reducible refine After.size_le _ ?_) | (with_reducible refine size_alloc_le ?_) | (with_reducible refine size_set_le ?_) | (with_reducible refine size_drewN_le ?_) | go_size))⟩
        · by_cases h57 : 57 < c.toNat
          · have hno := Lib.hid (nans6_no (s := s) (not15 (fun h => by have := h.2 c hmem; unfold dgt at this; omega)))
            have e1 : decide (((c.toNat : Nat) : Int) < 48) = false := decide_eq_false (by omega)
            have e2 : decide ((57 : Int) < ((c.toNat : Nat) : Int)) = true := decide_eq_true (by omega)
            clear hmem
            generalize valL ((s.take k).drop M) = V at *
            generalize c.toNat = C at *
            go_wp2
            go_returns
            exact ⟨hno.out, by (repeat' (first | (with_reducible exact Below.refl _ _) | (with_reducible assumption) | (with_reducible refine Below.alloc ?_ ?_ _) | (with_reducible refine Below.drew ?_) | (with_reducible refine below_drewN ?_ _) | (with_reducible refine Below.setCell ?_ ?_ _) | (with_reducible refine below_after ?_ ?_ _) | (with_reducible refine below_set ?_) | (with_reducible refine After.size_le _ ?_) | (with_reducible refine size_alloc_le ?_) | (with_reducible refine size_set_le ?_) | (with_reducible refine size_drewN_le ?_) | go_size))⟩
          · have e1 : decide (((c.toNat : Nat) : Int) < 48) = false := decide_eq_false (by omega)
            have e2 : decide ((57 : Int) < ((c.toNat : Nat) : Int)) = false := decide_eq_false (by omega)
            have HD2 : Hid (∀ x ∈ (s.take (k + 1)).drop M, dgt x) := Lib.hid (fun x hx => by
              rw [HTK.out] at hx
              rcases List.mem_append.1 hx with h | h
              · exact HDg.out x h
              · rw [List.mem_singleton.1 h]; unfold dgt; omega)
            have w1 : IntKind.u8.wrap (((c.toNat : Nat) : Int) - 48) = ((c.toNat : Nat) : Int) - 48 := by
              have h1 : (0 : Int) ≤ ((c.toNat : Nat) : Int) - 48 := by omega
              have h2 : ((c.toNat : Nat) : Int) - 48 < 256 := by omega
              exact wrap_u8_in h1 h2
            clear hmem
            generalize valL ((s.take k).drop M) = V at *
            generalize c.toNat = C at *
            go_wp2
            go_roundw
            case rel => exact ⟨k + 1, by omega, by go_num, by rw [HSN.out]; congr 1; omega, HD2.out, by trivial⟩
            case measure => simp [intOf]; omega
    · skip
      obtain rfl : k = s.length := by omega
      rw [List.take_length] at *
      have hMb : s.drop M = bodyL s := HM.out
      rw [hMb] at hd ⊢
      have hv := val_bd18 (l := bodyL s) (by rw [← hMb, List.length_drop]; omega) hd
      have hsg := HSg.out
      obtain ⟨z, hz⟩ : ∃ z, (Lib.itoa (sgn s (valL (bodyL s))) == s) = z := ⟨_, rfl⟩
      obtain ⟨y, hy⟩ : ∃ y, decide (In15 (sgn s (valL (bodyL s)))) = y := ⟨_, rfl⟩
      have HE := Lib.hid (nans6_end z y hz hy)
      have HD3 := Lib.hid (fun W => dig6_any (sgn s (valL (bodyL s))) (by omega) (by omega) W)
      have HW := Lib.hid (fun W => within6_any (sgn s (valL (bodyL s))) (-1000000000000000) 1000000000000000 W)
      rw [show decide (B6 (sgn s (valL (bodyL s))) (-1000000000000000) 1000000000000000) = y from hy] at HW
      clear hd hy
      rw [hsg] at hz HE HD3 HW
      clear hsg
      generalize valL (bodyL s) = V at *
      cases z
      · cases y
        · skip
          go_wp2_with fail
          refine (HD3.out _).mono ?_
          rintro e w1 ⟨rfl, hb⟩
          have HBw := Lib.hid (x.out.trans (hb.mono x.out.size))
          clear hb HD3
          go_wp2_with (go_at_call 42; refine (HW.out _).mono ?_; rintro e w9 ⟨rfl, rfl⟩)
          go_returns
          exact ⟨by first | exact HE.out | simpa using HE.out, HBw.out⟩
        · skip
          go_wp2_with fail
          refine (HD3.out _).mono ?_
          rintro e w1 ⟨rfl, hb⟩
          have HBw := Lib.hid (x.out.trans (hb.mono x.out.size))
          clear hb HD3
          go_wp2_with (go_at_call 42; refine (HW.out _).mono ?_; rintro e w9 ⟨rfl, rfl⟩)
          go_returns
          exact ⟨by first | exact HE.out | simpa using HE.out, HBw.out⟩
      · cases y
        · skip
          go_wp2_with fail
          refine (HD3.out _).mono ?_
          rintro e w1 ⟨rfl, hb⟩
          have HBw := Lib.hid (x.out.trans (hb.mono x.out.size))
          clear hb HD3
          go_wp2_with (go_at_call 42; refine (HW.out _).mono ?_; rintro e w9 ⟨rfl, rfl⟩)
          go_returns
          exact ⟨by first | exact HE.out | simpa using HE.out, HBw.out⟩
        · skip
          go_wp2_with fail
          refine (HD3.out _).mono ?_
          rintro e w1 ⟨rfl, hb⟩
          have HBw := Lib.hid (x.out.trans (hb.mono x.out.size))
          clear hb HD3
          go_wp2_with (go_at_call 42; refine (HW.out _).mono ?_; rintro e w9 ⟨rfl, rfl⟩)
          go_returns
          exact ⟨by first | exact HE.out | simpa using HE.out, HBw.out⟩
set_option maxRecDepth 100000 in
set_option maxHeartbeats 4000000 in
theorem num6_neg (s : List UInt8) (t : List UInt8) (w : World) (hst : s = 45 :: t) (hl : s.length ≤ 17) :
    Calls Tryz.prog 23 #[.string (tx s)] w fun e w' => NAns6 s e ∧ Below w.heap.size w w' := by
  obtain ⟨M, hM⟩ : ∃ M : Nat, M = 1 := ⟨_, rfl⟩
  have HM : Hid (s.drop M = bodyL s) := Lib.hid (by rw [hM, hst, bodyL_neg]; rfl)
  have HSg : Hid (sgn s (valL (bodyL s)) = -((valL (bodyL s) : Nat) : Int)) := Lib.hid (by unfold sgn; rw [if_pos (by rw [hst]; rfl)])
  have hix0 : ∀ w : World, (Instr.index 9 (.string (tx s)) (.int .i64 0)).run Tryz.prog w = .ok (.int .u8 45) w := fun w => run_tx_index (P := Tryz.prog) w Tryz.underlying9 s 0 45 (by rw [hst]; rfl)
  have hne : (s == []) = false := by rw [hst]; rfl
  have hsl : (s.length : Int) ≤ 17 := by omega
  have d1 : decide ((17 : Int) < (s.length : Int)) = false := decide_eq_false (by omega)
  have hpos : 0 < s.length := by rw [hst]; simp
  have e00 : (⟨#[]⟩ : ByteArray) = tx [] := rfl
  clear hst
  go_enter Tryz.func23, Tryz.ntmps23
  go_wp2_with fail
  refine wp_region_after (by kernel_rfl) (by kernel_rfl) ?_; (repeat (first | go_big_quiet_step ((fail)) | (refine wpQuiet_step (fun K hK => ?_); go_simp; first | (refine hK _ ?_; clear hK K) | (apply Exists.intro; refine ⟨fun x => ?_, hK _ ?_⟩; (fail); clear hK K)))); refine wpQuiet_nil ?_
  intro x
  go_wp2
  go_loopw [4, 6] (fun n i wr => ∃ k : Nat, k ≤ s.length ∧ i = .int .i64 k ∧ n = .int .i64 (valL ((s.take k).drop M) : Nat) ∧ (∀ c ∈ (s.take k).drop M, dgt c) ∧ wr = x.w) (fun _ i _ => s.length - (intOf i).toNat)
  case atStart => exact ⟨0, by omega, rfl, by simp [valL], by simp, rfl⟩
  case round =>
    obtain ⟨k, hk, rfl, rfl, hd, rfl⟩ := hrel
    by_cases hlt : k < s.length
    · have hkn : (k : Int) < (s.length : Int) := by omega
      cases hk0 : ((k : Int) == 0)
      · have hMk : M ≤ k := by have := beq_eq_false_iff_ne.1 hk0; omega
        obtain ⟨c, hc⟩ : ∃ c, s[k]? = some c := ⟨_, List.getElem?_eq_getElem hlt⟩
        have htk : (s.take (k + 1)).drop M = (s.take k).drop M ++ [c] := by
          rw [List.take_add_one, hc, List.drop_append_of_le_length (by rw [List.length_take]; omega)]; rfl
        have hix := fun w => run_tx_index (P := Tryz.prog) w Tryz.underlying9 s k c hc
        have hb := val_bd (l := (s.take k).drop M) (by rw [List.length_drop, List.length_take]; omega) hd
        have hsn := valL_snoc ((s.take k).drop M) c
        rw [← htk] at hsn
        have HSN := Lib.hid hsn
        have HTK := Lib.hid htk
        have HDg := Lib.hid hd
        have hcb : c.toNat < 256 := c.toNat_lt
        have hmem : c ∈ bodyL s := by
          have h1 : s.drop M = bodyL s := HM.out
          rw [← h1]
          exact List.mem_iff_getElem?.2 ⟨k - M, by rw [List.getElem?_drop, show M + (k - M) = k by omega]; exact hc⟩
        clear hsn htk hd
        by_cases h48 : c.toNat < 48
        · have hno := Lib.hid (nans6_no (s := s) (not15 (fun h => by have := h.2 c hmem; unfold dgt at this; omega)))
          have e1 : decide (((c.toNat : Nat) : Int) < 48) = true := decide_eq_true (by omega)
          clear hmem
          generalize valL ((s.take k).drop M) = V at *
          generalize c.toNat = C at *
          go_wp2
          go_returns
          exact ⟨hno.out, by (repeat' (first | (with_reducible exact Below.refl _ _) | (with_reducible assumption) | (with_reducible refine Below.alloc ?_ ?_ _) | (with_reducible refine Below.drew ?_) | (with_reducible refine below_drewN ?_ _) | (with_reducible refine Below.setCell ?_ ?_ _) | (with_reducible refine below_after ?_ ?_ _) | (with_reducible refine below_set ?_) | (with_reducible refine After.size_le _ ?_) | (with_reducible refine size_alloc_le ?_) | (with_reducible refine size_set_le ?_) | (with_reducible refine size_drewN_le ?_) | go_size))⟩
        · by_cases h57 : 57 < c.toNat
          · have hno := Lib.hid (nans6_no (s := s) (not15 (fun h => by have := h.2 c hmem; unfold dgt at this; omega)))
            have e1 : decide (((c.toNat : Nat) : Int) < 48) = false := decide_eq_false (by omega)
            have e2 : decide ((57 : Int) < ((c.toNat : Nat) : Int)) = true := decide_eq_true (by omega)
            clear hmem
            generalize valL ((s.take k).drop M) = V at *
            generalize c.toNat = C at *
            go_wp2
            go_returns
            exact ⟨hno.out, by (repeat' (first | (with_reducible exact Below.refl _ _) | (with_reducible assumption) | (with_reducible refine Below.alloc ?_ ?_ _) | (with_reducible refine Below.drew ?_) | (with_reducible refine below_drewN ?_ _) | (with_reducible refine Below.setCell ?_ ?_ _) | (with_reducible refine below_after ?_ ?_ _) | (with_reducible refine below_set ?_) | (with_reducible refine After.size_le _ ?_) | (with_reducible refine size_alloc_le ?_) | (with_reducible refine size_set_le ?_) | (with_reducible refine size_drewN_le ?_) | go_size))⟩
          · have e1 : decide (((c.toNat : Nat) : Int) < 48) = false := decide_eq_false (by omega)
            have e2 : decide ((57 : Int) < ((c.toNat : Nat) : Int)) = false := decide_eq_false (by omega)
            have HD2 : Hid (∀ x ∈ (s.take (k + 1)).drop M, dgt x) := Lib.hid (fun x hx => by
              rw [HTK.out] at hx
              rcases List.mem_append.1 hx with h | h
              · exact HDg.out x h
              · rw [List.mem_singleton.1 h]; unfold dgt; omega)
            have w1 : IntKind.u8.wrap (((c.toNat : Nat) : Int) - 48) = ((c.toNat : Nat) : Int) - 48 := by
              have h1 : (0 : Int) ≤ ((c.toNat : Nat) : Int) - 48 := by omega
              have h2 : ((c.toNat : Nat) : Int) - 48 < 256 := by omega
              exact wrap_u8_in h1 h2
            clear hmem
            generalize valL ((s.take k).drop M) = V at *
            generalize c.toNat = C at *
            go_wp2
            go_roundw
            case rel => exact ⟨k + 1, by omega, by go_num, by rw [HSN.out]; congr 1; omega, HD2.out, by trivial⟩
            case measure => simp [intOf]; omega
      · have hk1 : k = 0 := by have := beq_iff_eq.1 hk0; omega
        have HZ : Hid ((s.take 1).drop M = []) := Lib.hid (by rw [hM]; exact List.drop_eq_nil_of_le (by rw [List.length_take]; omega))
        subst hk1
        go_wp2
        go_roundw
        case rel => exact ⟨1, by omega, by first | rfl | go_num, by rw [HZ.out]; simp [valL], by rw [HZ.out]; simp, by trivial⟩
        case measure => simp [intOf]; omega
    · skip
      obtain rfl : k = s.length := by omega
      rw [List.take_length] at *
      have hMb : s.drop M = bodyL s := HM.out
      rw [hMb] at hd ⊢
      have hv := val_bd18 (l := bodyL s) (by rw [← hMb, List.length_drop]; omega) hd
      have hsg := HSg.out
      obtain ⟨z, hz⟩ : ∃ z, (Lib.itoa (sgn s (valL (bodyL s))) == s) = z := ⟨_, rfl⟩
      obtain ⟨y, hy⟩ : ∃ y, decide (In15 (sgn s (valL (bodyL s)))) = y := ⟨_, rfl⟩
      have HE := Lib.hid (nans6_end z y hz hy)
      have HD3 := Lib.hid (fun W => dig6_any (sgn s (valL (bodyL s))) (by omega) (by omega) W)
      have HW := Lib.hid (fun W => within6_any (sgn s (valL (bodyL s))) (-1000000000000000) 1000000000000000 W)
      rw [show decide (B6 (sgn s (valL (bodyL s))) (-1000000000000000) 1000000000000000) = y from hy] at HW
      clear hd hy
      rw [hsg] at hz HE HD3 HW
      clear hsg
      generalize valL (bodyL s) = V at *
      cases z
      · cases y
        · skip
          go_wp2_with fail
          refine (HD3.out _).mono ?_
          rintro e w1 ⟨rfl, hb⟩
          have HBw := Lib.hid (x.out.trans (hb.mono x.out.size))
          clear hb HD3
          go_wp2_with (go_at_call 42; refine (HW.out _).mono ?_; rintro e w9 ⟨rfl, rfl⟩)
          go_returns
          exact ⟨by first | exact HE.out | simpa using HE.out, HBw.out⟩
        · skip
          go_wp2_with fail
          refine (HD3.out _).mono ?_
          rintro e w1 ⟨rfl, hb⟩
          have HBw := Lib.hid (x.out.trans (hb.mono x.out.size))
          clear hb HD3
          go_wp2_with (go_at_call 42; refine (HW.out _).mono ?_; rintro e w9 ⟨rfl, rfl⟩)
          go_returns
          exact ⟨by first | exact HE.out | simpa using HE.out, HBw.out⟩
      · cases y
        · skip
          go_wp2_with fail
          refine (HD3.out _).mono ?_
          rintro e w1 ⟨rfl, hb⟩
          have HBw := Lib.hid (x.out.trans (hb.mono x.out.size))
          clear hb HD3
          go_wp2_with (go_at_call 42; refine (HW.out _).mono ?_; rintro e w9 ⟨rfl, rfl⟩)
          go_returns
          exact ⟨by first | exact HE.out | simpa using HE.out, HBw.out⟩
        · skip
          go_wp2_with fail
          refine (HD3.out _).mono ?_
          rintro e w1 ⟨rfl, hb⟩
          have HBw := Lib.hid (x.out.trans (hb.mono x.out.size))
          clear hb HD3
          go_wp2_with (go_at_call 42; refine (HW.out _).mono ?_; rintro e w9 ⟨rfl, rfl⟩)
          go_returns
          exact ⟨by first | exact HE.out | simpa using HE.out, HBw.out⟩
set_option maxRecDepth 100000 in
set_option maxHeartbeats 1000000 in
theorem num6_long (s : List UInt8) (w : World) (h : 17 < s.length) (hs : s.length ≤ 1000000000) :
    Calls Tryz.prog 23 #[.string (tx s)] w fun e w' => NAns6 s e ∧ Below w.heap.size w w' := by
  have hno := Lib.hid (nans6_no (s := s) (fun n h1 h2 => by have := (itoa_len17 h1).2; rw [h2] at this; omega))
  have hne : (s == []) = false := by cases s with | nil => simp at h | cons _ _ => rfl
  have d1 : decide ((17 : Int) < (s.length : Int)) = true := decide_eq_true (by omega)
  have e00 : (⟨#[]⟩ : ByteArray) = tx [] := rfl
  clear h
  go_enter Tryz.func23, Tryz.ntmps23
  go_wp2
  go_returns
  exact ⟨hno.out, by (repeat' (first | (with_reducible exact Below.refl _ _) | (with_reducible assumption) | (with_reducible refine Below.alloc ?_ ?_ _) | (with_reducible refine Below.drew ?_) | (with_reducible refine below_drewN ?_ _) | (with_reducible refine Below.setCell ?_ ?_ _) | (with_reducible refine below_after ?_ ?_ _) | (with_reducible refine below_set ?_) | (with_reducible refine After.size_le _ ?_) | (with_reducible refine size_alloc_le ?_) | (with_reducible refine size_set_le ?_) | (with_reducible refine size_drewN_le ?_) | go_size))⟩
set_option maxRecDepth 100000 in
theorem num6_empty (w : World) :
    Calls Tryz.prog 23 #[.string (tx [])] w fun e w' => NAns6 [] e ∧ Below w.heap.size w w' := by
  have hno := Lib.hid (nans6_no (s := []) (fun n h1 h2 => by have := (itoa_len17 h1).1; rw [h2] at this; simp at this))
  have e00 : (⟨#[]⟩ : ByteArray) = tx [] := rfl
  go_enter Tryz.func23, Tryz.ntmps23
  go_wp2
  go_returns
  exact ⟨hno.out, by (repeat' (first | (with_reducible exact Below.refl _ _) | (with_reducible assumption) | (with_reducible refine Below.alloc ?_ ?_ _) | (with_reducible refine Below.drew ?_) | (with_reducible refine below_drewN ?_ _) | (with_reducible refine Below.setCell ?_ ?_ _) | (with_reducible refine below_after ?_ ?_ _) | (with_reducible refine below_set ?_) | (with_reducible refine After.size_le _ ?_) | (with_reducible refine size_alloc_le ?_) | (with_reducible refine size_set_le ?_) | (with_reducible refine size_drewN_le ?_) | go_size))⟩
theorem number6_any (s : List UInt8) (w : World) (hs : s.length ≤ 1000000000) :
    Calls Tryz.prog 23 #[.string (tx s)] w fun e w' => NAns6 s e ∧ Below w.heap.size w w' := by
  rcases Nat.lt_or_ge 17 s.length with h | h
  · exact num6_long s w h hs
  · cases s with
    | nil => exact num6_empty w
    | cons c t =>
      by_cases h45 : c = 45
      · subst h45; exact num6_neg _ t w rfl h
      · exact num6_plain _ c t w rfl h45 h
end Go.Proofs.YtkgfaemdgmmdkaaGreatDoor.Gx
