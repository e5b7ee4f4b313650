/- The reference's Number: its contract. -/
import Derived.Test.YtccjfmhbmieigaaDoorNumt
namespace Go.Proofs.YtccjfmhbmieigaaDoor
open Go.RowKit
attribute [local go_sem] After.cell After.frozen After.lt After.le After.ne After.ne' After.set_eq After.size_set After.lt_add tx_size

theorem bodyL_neg (t : List UInt8) : bodyL (45 :: t) = t := by simp [bodyL]
theorem bodyL_plain {c : UInt8} (t : List UInt8) (h : c ≠ 45) : bodyL (c :: t) = c :: t := by simp [bodyL, h]
/-- The texts that are read as numbers. -/
def NumOk (s : List UInt8) : Prop := ∃ n : Int, In18 n ∧ Lib.itoa n = s
theorem not_numOk {s : List UInt8} (h : ¬ (1 ≤ (bodyL s).length ∧ (bodyL s).length ≤ 18 ∧ ∀ c ∈ bodyL s, dgt c)) : ¬ NumOk s := fun ⟨_, h1, h2⟩ => by
  obtain ⟨a, b, c, _⟩ := read_back h1 h2
  exact h ⟨a, b, c⟩
theorem tx_toList (l : List UInt8) : (tx l).toList = l := ByteArray.toList_mk l
attribute [local go_sem] tx_toList
/-- What Number answers. -/
def NAns (s : List UInt8) (e : Ending) : Prop := ∃ (N : Int) (ok : Bool), e = .returned (.tuple #[.int .i64 N, .bool ok]) ∧ (ok = true → In18 N ∧ Lib.itoa N = s) ∧ (ok = false → ¬ NumOk s)
theorem nans_no {s : List UInt8} (h : ¬ NumOk s) : NAns s (.returned (.tuple #[.int .i64 0, .bool false])) := ⟨0, false, rfl, (fun h => by cases h), fun _ => h⟩
theorem val_bd {l : List UInt8} (h : l.length ≤ 17) (hd : ∀ c ∈ l, dgt c) : valL l ≤ 99999999999999999 := by
  have h1 := valL_lt _ l rfl hd
  have h2 : 10 ^ l.length ≤ (10 : Nat) ^ 17 := Nat.pow_le_pow_right (by decide) h
  have : (10 : Nat) ^ 17 = 100000000000000000 := by decide
  omega
theorem val_bd18 {l : List UInt8} (h : l.length ≤ 18) (hd : ∀ c ∈ l, dgt c) : valL l ≤ 999999999999999999 := by
  have h1 := valL_lt _ l rfl hd
  have h2 : 10 ^ l.length ≤ (10 : Nat) ^ 18 := Nat.pow_le_pow_right (by decide) h
  have : (10 : Nat) ^ 18 = 1000000000000000000 := by decide
  omega
theorem nans_end {s : List UInt8} (h : (bodyL s).length ≤ 18) (hd : ∀ c ∈ bodyL s, dgt c) : NAns s (.returned (.tuple #[.int .i64 (sgn s (valL (bodyL s))), .bool (Lib.itoa (sgn s (valL (bodyL s))) == s)])) := by
  have hv := val_bd18 h hd
  refine ⟨_, _, rfl, fun h => ⟨?_, beq_iff_eq.1 h⟩, fun h => ?_⟩
  · unfold In18 sgn; split <;> omega
  · rintro ⟨n, h1, h2⟩
    obtain ⟨-, -, -, h3⟩ := read_back h1 h2
    rw [h3] at h
    exact (beq_eq_false_iff_ne.1 h) h2

theorem wrap_u8_in {x : Int} (h1 : 0 ≤ x) (h2 : x < 256) : IntKind.u8.wrap x = x := by
  rw [show IntKind.u8.wrap x = x % 256 by simp [IntKind.wrap, IntKind.bits, IntKind.signed]]
  omega
set_option maxRecDepth 100000 in
set_option maxHeartbeats 2000000 in
theorem number_plain (s : List UInt8) (c0 : UInt8) (t : List UInt8) (w : World) (hst : s = c0 :: t) (h0 : c0 ≠ 45) (hl : s.length ≤ 18) :
    Calls Tryd.prog 49 #[.string (tx s)] w fun e w' => NAns s e ∧ Below w.heap.size w w' := by
  obtain ⟨B, hB⟩ : ∃ B, s = B := ⟨_, rfl⟩
  have HB : Hid (bodyL s = B) := Lib.hid (by unfold bodyL; rw [hst]; rw [if_neg (by simpa using h0), ← hst, hB])
  have hix0 : ∀ w : World, (Instr.index 9 (.string (tx B)) (.int .i64 0)).run Tryd.prog w = .ok (.int .u8 (c0.toNat : Nat)) w := fun w => run_tx_index (P := Tryd.prog) w Tryd.underlying9 B 0 c0 (by rw [← hB, hst]; rfl)
  have e0 : (((c0.toNat : Nat) : Int) == 45) = false := by
    rw [beq_eq_false_iff_ne]
    intro h
    exact h0 (UInt8.toNat_inj.1 (by simpa using (by omega : c0.toNat = 45)))
  have hpos : 0 < B.length := by rw [← hB, hst]; simp
  have hBl : B.length ≤ 18 := by rw [← hB]; exact hl
  have d1 : decide ((0 : Int) < (B.length : Int)) = true := decide_eq_true (by omega)
  have d2 : decide ((B.length : Int) < 1) = false := decide_eq_false (by omega)
  have d3 : decide ((18 : Int) < (B.length : Int)) = false := decide_eq_false (by omega)
  have hs0 : tx s = tx B := by rw [hB]
  rw [hs0]
  have HS0 := Lib.hid hB
  have HNs : Hid (¬ s.head? = some 45) := Lib.hid (by rw [hst]; simpa using h0)
  clear hB hst h0 hs0 hl
  go_enter Tryd.func49, Tryd.ntmps49
  have HE : Hid (B.length ≤ 18 → (∀ c ∈ B, dgt c) → NAns s (.returned (.tuple #[.int .i64 (valL B : Nat), .bool (Lib.itoa (valL B : Nat) == B)]))) := Lib.hid (fun h hd => by
    have h1 := nans_end (s := s) (by rw [HB.out]; exact h) (by rw [HB.out]; exact hd)
    rw [HB.out] at h1
    have h2 : sgn s (valL B) = ((valL B : Nat) : Int) := by unfold sgn; rw [if_neg HNs.out]
    rw [h2, show (Lib.itoa ((valL B : Nat) : Int) == s) = (Lib.itoa ((valL B : Nat) : Int) == B) by rw [HS0.out]] at h1
    exact h1)
  go_wp2
  go_loopw [5, 6] (fun n i wr => ∃ k : Nat, k ≤ B.length ∧ i = .int .i64 k ∧ n = .int .i64 (valL (B.take k) : Nat) ∧ (∀ c ∈ B.take k, dgt c) ∧ wr = w) (fun _ i _ => B.length - (intOf i).toNat)
  case atStart => exact ⟨0, by omega, rfl, by simp [valL], by simp, rfl⟩
  case round =>
    obtain ⟨k, hk, rfl, rfl, hd, rfl⟩ := hrel
    by_cases hlt : k < B.length
    · obtain ⟨c, hc⟩ : ∃ c, B[k]? = some c := ⟨_, List.getElem?_eq_getElem hlt⟩
      have hmem : c ∈ B := List.mem_of_getElem? hc
      have htk : B.take (k + 1) = B.take k ++ [c] := by rw [List.take_add_one, hc]; rfl
      have hix := fun w => run_tx_index (P := Tryd.prog) w Tryd.underlying9 B k c hc
      have hb := val_bd (l := B.take k) (by rw [List.length_take]; omega) hd
      have hkn : (k : Int) < (B.length : Int) := by omega
      have hsn := valL_snoc (B.take k) c
      rw [← htk] at hsn
      have HSN := Lib.hid hsn
      have HTK := Lib.hid htk
      have HDg := Lib.hid hd
      have hcb : c.toNat < 256 := c.toNat_lt
      clear hsn htk hd
      by_cases h48 : c.toNat < 48
      · have hno := Lib.hid (nans_no (s := s) (not_numOk (fun h => by have := h.2.2 c (HB.out ▸ hmem); unfold dgt at this; omega)))
        have e1 : decide (((c.toNat : Nat) : Int) < 48) = true := decide_eq_true (by omega)
        clear hmem
        generalize valL (B.take k) = V at *
        generalize c.toNat = C at *
        go_wp2
        go_returns
        exact ⟨hno.out, by (repeat' (first | (with_reducible exact Below.refl _ _) | (with_reducible assumption) | (with_reducible refine Below.alloc ?_ ?_ _) | (with_reducible refine Below.drew ?_) | (with_reducible refine below_drewN ?_ _) | (with_reducible refine Below.setCell ?_ ?_ _) | (with_reducible refine below_after ?_ ?_ _) | (with_reducible refine below_set ?_) | (with_reducible refine After.size_le _ ?_) | (with_reducible refine size_alloc_le ?_) | (with_reducible refine size_set_le ?_) | (with_reducible refine size_drewN_le ?_) | go_size))⟩
      · by_cases h57 : 57 < c.toNat
        · have hno := Lib.hid (nans_no (s := s) (not_numOk (fun h => by have := h.2.2 c (HB.out ▸ hmem); unfold dgt at this; omega)))
          have e1 : decide (((c.toNat : Nat) : Int) < 48) = false := decide_eq_false (by omega)
          have e2 : decide ((57 : Int) < ((c.toNat : Nat) : Int)) = true := decide_eq_true (by omega)
          clear hmem
          generalize valL (B.take k) = V at *
          generalize c.toNat = C at *
          go_wp2
          go_returns
          exact ⟨hno.out, by (repeat' (first | (with_reducible exact Below.refl _ _) | (with_reducible assumption) | (with_reducible refine Below.alloc ?_ ?_ _) | (with_reducible refine Below.drew ?_) | (with_reducible refine below_drewN ?_ _) | (with_reducible refine Below.setCell ?_ ?_ _) | (with_reducible refine below_after ?_ ?_ _) | (with_reducible refine below_set ?_) | (with_reducible refine After.size_le _ ?_) | (with_reducible refine size_alloc_le ?_) | (with_reducible refine size_set_le ?_) | (with_reducible refine size_drewN_le ?_) | go_size))⟩
        · have e1 : decide (((c.toNat : Nat) : Int) < 48) = false := decide_eq_false (by omega)
          have e2 : decide ((57 : Int) < ((c.toNat : Nat) : Int)) = false := decide_eq_false (by omega)
          have HD2 : Hid (∀ x ∈ B.take (k + 1), dgt x) := Lib.hid (fun x hx => by
            rw [HTK.out] at hx
            rcases List.mem_append.1 hx with h | h
            · exact HDg.out x h
            · rw [List.mem_singleton.1 h]; unfold dgt; omega)
          have w1 : IntKind.u8.wrap (((c.toNat : Nat) : Int) - 48) = ((c.toNat : Nat) : Int) - 48 := by
            have h1 : (0 : Int) ≤ ((c.toNat : Nat) : Int) - 48 := by omega
            have h2 : ((c.toNat : Nat) : Int) - 48 < 256 := by omega
            exact wrap_u8_in h1 h2
          clear hmem
          generalize valL (B.take k) = V at *
          generalize c.toNat = C at *
          go_wp2
          go_roundw
          case rel => exact ⟨k + 1, by omega, by go_num, by rw [HSN.out]; congr 1; omega, HD2.out, by trivial⟩
          case measure => simp [intOf]; omega
    · obtain rfl : k = B.length := by omega
      rw [List.take_length] at *
      have hv := val_bd18 (l := B) hBl hd
      have HE2 := Lib.hid (HE.out hBl hd)
      have HD3 := Lib.hid (fun (N : Int) (h : -999999999999999999 ≤ N ∧ N ≤ 999999999999999999) W => digits_any N (by omega) (by omega) W)
      clear hd HE
      generalize valL B = V at *
      go_wp2_with fail
      refine (HD3.out _ (by omega) _).mono ?_
      rintro e w1 ⟨rfl, hb⟩
      have HBw := Lib.hid hb
      clear hb HD3
      go_wp2
      go_returns
      exact ⟨HE2.out, HBw.out⟩
set_option maxRecDepth 100000 in
set_option maxHeartbeats 2000000 in
theorem number_neg (s t : List UInt8) (w : World) (hst : s = 45 :: t) (h1 : 1 ≤ t.length) (hl : t.length ≤ 18) :
    Calls Tryd.prog 49 #[.string (tx s)] w fun e w' => NAns s e ∧ Below w.heap.size w w' := by
  obtain ⟨B, hB⟩ : ∃ B, t = B := ⟨_, rfl⟩
  have HB : Hid (bodyL s = B) := Lib.hid (by rw [hst, bodyL_neg, hB])
  have HNs : Hid (s.head? = some 45) := Lib.hid (by rw [hst]; rfl)
  have hix0 : ∀ w : World, (Instr.index 9 (.string (tx s)) (.int .i64 0)).run Tryd.prog w = .ok (.int .u8 45) w := fun w => run_tx_index (P := Tryd.prog) w Tryd.underlying9 s 0 45 (by rw [hst]; rfl)
  have hfr0 : ∀ w : World, (Instr.slice 9 (.string (tx s)) (some (.int .i64 1)) none none).run Tryd.prog w = .ok (.string (tx B)) w := fun w => by
    have := run_tx_from (P := Tryd.prog) w Tryd.underlying9 s 1 (by rw [hst]; simp)
    rw [show s.drop 1 = B by rw [hst, ← hB]; rfl] at this
    exact this
  have hBl : B.length ≤ 18 := by rw [← hB]; exact hl
  have hB1 : 1 ≤ B.length := by rw [← hB]; exact h1
  have hsl : s.length = B.length + 1 := by rw [hst, ← hB]; rfl
  have d1 : decide ((0 : Int) < (s.length : Int)) = true := decide_eq_true (by omega)
  have d2 : decide ((B.length : Int) < 1) = false := decide_eq_false (by omega)
  have d3 : decide ((18 : Int) < (B.length : Int)) = false := decide_eq_false (by omega)
  have d4 : decide ((B.length : Int) < (s.length : Int)) = true := decide_eq_true (by omega)
  have HE : Hid (B.length ≤ 18 → (∀ c ∈ B, dgt c) → NAns s (.returned (.tuple #[.int .i64 (-((valL B : Nat) : Int)), .bool (Lib.itoa (-((valL B : Nat) : Int)) == s)]))) := Lib.hid (fun h hd => by
    have h1 := nans_end (s := s) (by rw [HB.out]; exact h) (by rw [HB.out]; exact hd)
    rw [HB.out] at h1
    have h2 : sgn s (valL B) = -((valL B : Nat) : Int) := by unfold sgn; rw [if_pos HNs.out]
    rw [h2] at h1
    exact h1)
  generalize hS : s.length = S at *
  clear hB hst h1 hl
  go_enter Tryd.func49, Tryd.ntmps49
  go_wp2
  go_loopw [5, 6] (fun n i wr => ∃ k : Nat, k ≤ B.length ∧ i = .int .i64 k ∧ n = .int .i64 (valL (B.take k) : Nat) ∧ (∀ c ∈ B.take k, dgt c) ∧ wr = w) (fun _ i _ => B.length - (intOf i).toNat)
  case atStart => exact ⟨0, by omega, rfl, by simp [valL], by simp, rfl⟩
  case round =>
    obtain ⟨k, hk, rfl, rfl, hd, rfl⟩ := hrel
    by_cases hlt : k < B.length
    · obtain ⟨c, hc⟩ : ∃ c, B[k]? = some c := ⟨_, List.getElem?_eq_getElem hlt⟩
      have hmem : c ∈ B := List.mem_of_getElem? hc
      have htk : B.take (k + 1) = B.take k ++ [c] := by rw [List.take_add_one, hc]; rfl
      have hix := fun w => run_tx_index (P := Tryd.prog) w Tryd.underlying9 B k c hc
      have hb := val_bd (l := B.take k) (by rw [List.length_take]; omega) hd
      have hkn : (k : Int) < (B.length : Int) := by omega
      have hsn := valL_snoc (B.take k) c
      rw [← htk] at hsn
      have HSN := Lib.hid hsn
      have HTK := Lib.hid htk
      have HDg := Lib.hid hd
      have hcb : c.toNat < 256 := c.toNat_lt
      clear hsn htk hd
      by_cases h48 : c.toNat < 48
      · have hno := Lib.hid (nans_no (s := s) (not_numOk (fun h => by have := h.2.2 c (HB.out ▸ hmem); unfold dgt at this; omega)))
        have e1 : decide (((c.toNat : Nat) : Int) < 48) = true := decide_eq_true (by omega)
        clear hmem
        generalize valL (B.take k) = V at *
        generalize c.toNat = C at *
        go_wp2
        go_returns
        exact ⟨hno.out, by (repeat' (first | (with_reducible exact Below.refl _ _) | (with_reducible assumption) | (with_reducible refine Below.alloc ?_ ?_ _) | (with_reducible refine Below.drew ?_) | (with_reducible refine below_drewN ?_ _) | (with_reducible refine Below.setCell ?_ ?_ _) | (with_reducible refine below_after ?_ ?_ _) | (with_reducible refine below_set ?_) | (with_reducible refine After.size_le _ ?_) | (with_reducible refine size_alloc_le ?_) | (with_reducible refine size_set_le ?_) | (with_reducible refine size_drewN_le ?_) | go_size))⟩
      · by_cases h57 : 57 < c.toNat
        · have hno := Lib.hid (nans_no (s := s) (not_numOk (fun h => by have := h.2.2 c (HB.out ▸ hmem); unfold dgt at this; omega)))
          have e1 : decide (((c.toNat : Nat) : Int) < 48) = false := decide_eq_false (by omega)
          have e2 : decide ((57 : Int) < ((c.toNat : Nat) : Int)) = true := decide_eq_true (by omega)
          clear hmem
          generalize valL (B.take k) = V at *
          generalize c.toNat = C at *
          go_wp2
          go_returns
          exact ⟨hno.out, by (repeat' (first | (with_reducible exact Below.refl _ _) | (with_reducible assumption) | (with_reducible refine Below.alloc ?_ ?_ _) | (with_reducible refine Below.drew ?_) | (with_reducible refine below_drewN ?_ _) | (with_reducible refine Below.setCell ?_ ?_ _) | (with_reducible refine below_after ?_ ?_ _) | (with_reducible refine below_set ?_) | (with_reducible refine After.size_le _ ?_) | (with_reducible refine size_alloc_le ?_) | (with_reducible refine size_set_le ?_) | (with_reducible refine size_drewN_le ?_) | go_size))⟩
        · have e1 : decide (((c.toNat : Nat) : Int) < 48) = false := decide_eq_false (by omega)
          have e2 : decide ((57 : Int) < ((c.toNat : Nat) : Int)) = false := decide_eq_false (by omega)
          have HD2 : Hid (∀ x ∈ B.take (k + 1), dgt x) := Lib.hid (fun x hx => by
            rw [HTK.out] at hx
            rcases List.mem_append.1 hx with h | h
            · exact HDg.out x h
            · rw [List.mem_singleton.1 h]; unfold dgt; omega)
          have w1 : IntKind.u8.wrap (((c.toNat : Nat) : Int) - 48) = ((c.toNat : Nat) : Int) - 48 := by
            have h1 : (0 : Int) ≤ ((c.toNat : Nat) : Int) - 48 := by omega
            have h2 : ((c.toNat : Nat) : Int) - 48 < 256 := by omega
            exact wrap_u8_in h1 h2
          clear hmem
          generalize valL (B.take k) = V at *
          generalize c.toNat = C at *
          go_wp2
          go_roundw
          case rel => exact ⟨k + 1, by omega, by go_num, by rw [HSN.out]; congr 1; omega, HD2.out, by trivial⟩
          case measure => simp [intOf]; omega
    · obtain rfl : k = B.length := by omega
      rw [List.take_length] at *
      have hv := val_bd18 (l := B) hBl hd
      have HE2 := Lib.hid (HE.out hBl hd)
      have HD3 := Lib.hid (fun (N : Int) (h : -999999999999999999 ≤ N ∧ N ≤ 999999999999999999) W => digits_any N (by omega) (by omega) W)
      clear hd HE
      generalize valL B = V at *
      go_wp2_with fail
      refine (HD3.out _ (by omega) _).mono ?_
      rintro e w1 ⟨rfl, hb⟩
      have HBw := Lib.hid hb
      clear hb HD3
      go_wp2
      go_returns
      exact ⟨HE2.out, HBw.out⟩
set_option maxRecDepth 100000 in
set_option maxHeartbeats 1000000 in
theorem number_bad (s : List UInt8) (w : World) (hs : s.length ≤ 1000000000) (hb : ¬ (1 ≤ (bodyL s).length ∧ (bodyL s).length ≤ 18)) :
    Calls Tryd.prog 49 #[.string (tx s)] w fun e w' => NAns s e ∧ Below w.heap.size w w' := by
  have HNo := Lib.hid (nans_no (s := s) (not_numOk (fun h => hb ⟨h.1, h.2.1⟩)))
  obtain ⟨B, hB⟩ : ∃ B, bodyL s = B := ⟨_, rfl⟩
  rw [hB] at hb
  have hz : decide ((B.length : Int) < 1) = true ∨ (decide ((B.length : Int) < 1) = false ∧ decide ((18 : Int) < (B.length : Int)) = true) := by
    by_cases h : B.length < 1
    · exact .inl (decide_eq_true (by omega))
    · exact .inr ⟨decide_eq_false (by omega), decide_eq_true (by omega)⟩
  clear hb
  cases s with
  | nil =>
    have hB' : B = [] := by rw [← hB]; rfl
    subst hB'
    clear hB
    go_enter Tryd.func49, Tryd.ntmps49
    go_wp2
    go_returns
    exact ⟨HNo.out, by (repeat' (first | (with_reducible exact Below.refl _ _) | (with_reducible assumption) | (with_reducible refine Below.alloc ?_ ?_ _) | (with_reducible refine Below.drew ?_) | (with_reducible refine below_drewN ?_ _) | (with_reducible refine Below.setCell ?_ ?_ _) | (with_reducible refine below_after ?_ ?_ _) | (with_reducible refine below_set ?_) | (with_reducible refine After.size_le _ ?_) | (with_reducible refine size_alloc_le ?_) | (with_reducible refine size_set_le ?_) | (with_reducible refine size_drewN_le ?_) | go_size))⟩
  | cons c t =>
    obtain ⟨s, hst⟩ : ∃ s, c :: t = s := ⟨_, rfl⟩
    rw [hst] at HNo hs hB ⊢
    have hpos : 0 < s.length := by rw [← hst, List.length_cons]; omega
    have d1 : decide ((0 : Int) < (s.length : Int)) = true := decide_eq_true (by omega)
    have hix0 : ∀ w : World, (Instr.index 9 (.string (tx s)) (.int .i64 0)).run Tryd.prog w = .ok (.int .u8 (c.toNat : Nat)) w := fun w => run_tx_index (P := Tryd.prog) w Tryd.underlying9 s 0 c (by rw [← hst]; rfl)
    by_cases h45 : c = 45
    · have e0 : (((c.toNat : Nat) : Int) == 45) = true := by rw [h45]; rfl
      have hfr0 : ∀ w : World, (Instr.slice 9 (.string (tx s)) (some (.int .i64 1)) none none).run Tryd.prog w = .ok (.string (tx B)) w := fun w => by
        have := run_tx_from (P := Tryd.prog) w Tryd.underlying9 s 1 (by rw [← hst]; simp)
        rw [show s.drop 1 = B by rw [← hB, ← hst, h45, bodyL_neg]; rfl] at this
        exact this
      clear hB hst h45
      rcases hz with d2 | ⟨d2, d3⟩
      all_goals
        go_enter Tryd.func49, Tryd.ntmps49
        go_wp2
        go_returns
        exact ⟨HNo.out, by (repeat' (first | (with_reducible exact Below.refl _ _) | (with_reducible assumption) | (with_reducible refine Below.alloc ?_ ?_ _) | (with_reducible refine Below.drew ?_) | (with_reducible refine below_drewN ?_ _) | (with_reducible refine Below.setCell ?_ ?_ _) | (with_reducible refine below_after ?_ ?_ _) | (with_reducible refine below_set ?_) | (with_reducible refine After.size_le _ ?_) | (with_reducible refine size_alloc_le ?_) | (with_reducible refine size_set_le ?_) | (with_reducible refine size_drewN_le ?_) | go_size))⟩
    · have e0 : (((c.toNat : Nat) : Int) == 45) = false := by
        rw [beq_eq_false_iff_ne]
        intro h
        exact h45 (UInt8.toNat_inj.1 (by simpa using (by omega : c.toNat = 45)))
      have hsB : s = B := by rw [← hB, ← hst, bodyL_plain _ h45]
      rw [← hsB] at hz
      clear hB hst h45 hsB
      rcases hz with d2 | ⟨d2, d3⟩
      all_goals
        go_enter Tryd.func49, Tryd.ntmps49
        go_wp2
        go_returns
        exact ⟨HNo.out, by (repeat' (first | (with_reducible exact Below.refl _ _) | (with_reducible assumption) | (with_reducible refine Below.alloc ?_ ?_ _) | (with_reducible refine Below.drew ?_) | (with_reducible refine below_drewN ?_ _) | (with_reducible refine Below.setCell ?_ ?_ _) | (with_reducible refine below_after ?_ ?_ _) | (with_reducible refine below_set ?_) | (with_reducible refine After.size_le _ ?_) | (with_reducible refine size_alloc_le ?_) | (with_reducible refine size_set_le ?_) | (with_reducible refine size_drewN_le ?_) | go_size))⟩
theorem number_any (s : List UInt8) (w : World) (hs : s.length ≤ 1000000000) :
    Calls Tryd.prog 49 #[.string (tx s)] w fun e w' => NAns s e ∧ Below w.heap.size w w' := by
  by_cases hb : 1 ≤ (bodyL s).length ∧ (bodyL s).length ≤ 18
  · cases s with
    | nil => exact absurd hb.1 (by simp [bodyL])
    | cons c t =>
      by_cases h45 : c = 45
      · subst h45
        have e : bodyL (45 :: t) = t := bodyL_neg t
        rw [e] at hb
        exact number_neg _ t w rfl hb.1 hb.2
      · have e : bodyL (c :: t) = c :: t := bodyL_plain t h45
        rw [e] at hb
        exact number_plain _ c t w rfl h45 hb.2
  · exact number_bad s w hs hb
end Go.Proofs.YtccjfmhbmieigaaDoor
