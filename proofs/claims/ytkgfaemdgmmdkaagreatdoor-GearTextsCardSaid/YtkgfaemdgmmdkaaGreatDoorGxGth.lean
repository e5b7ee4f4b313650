/- Lists of numbers; those of the program; ends of the reference. -/
import Derived.Test.YtkgfaemdgmmdkaaGreatDoorGxGvs
namespace Go.Proofs.YtkgfaemdgmmdkaaGreatDoor.Gx
open Go.Proofs.YtkgfaemdgmmdkaaGreatDoor
open Go.RowKit
attribute [local go_sem] After.cell After.frozen After.lt After.le After.ne After.ne' After.set_eq After.size_set After.lt_add tx_size tx_toList

/-- The cells of a list of numbers. -/
def ivs (L : List Nat) : List Value := L.map fun i => .int .i64 (i : Nat)
theorem ivs_len (L : List Nat) : (ivs L).length = L.length := by simp [ivs]
theorem ivs_snoc (L : List Nat) (k : Nat) : ivs (L ++ [k]) = ivs L ++ [.int .i64 (k : Nat)] := by simp [ivs]
theorem intInfo7 : (Tryz.prog.info? 3).map (fun i => (i.zero, i.size, i.bytes)) = some (some (.int .i64 0), 1, 8) := by kernel_rfl
/-- The numbers below n with a property. -/
def thN (p : Nat → Bool) (n : Nat) : List Nat := (List.range n).filter p
theorem thN_succ (p : Nat → Bool) (n : Nat) : thN p (n + 1) = if p n then thN p n ++ [n] else thN p n := by
  unfold thN
  rw [List.range_succ, List.filter_append]
  cases h : p n <;> simp [h]
theorem thN_len (p : Nat → Bool) (n : Nat) : (thN p n).length ≤ n := by
  unfold thN
  have := List.length_filter_le p (List.range n)
  simpa using this
theorem ownsR_shape {W : World} {B : Nat} {T : TypeId} {c n : Nat} {v : Value} {xs : List Value} (h : W.ownsRow B T c v n xs) : ∃ a cap, v = .slice a n cap := by
  rcases Nat.eq_zero_or_pos n with rfl | h0
  · rcases Go.Joins.ownsRow_forms h with ⟨rfl, _⟩ | ⟨g, c, rfl⟩
    · exact ⟨_, _, rfl⟩
    · exact ⟨_, _, rfl⟩
  · obtain ⟨g, cap, rfl⟩ := Go.Joins.ownsRow_form h h0
    exact ⟨_, _, rfl⟩
set_option maxRecDepth 100000 in
set_option maxHeartbeats 2000000 in
theorem those_any (F : FuncId) (fvs lb : Array Value) (eF : ∀ args w, (callFunc F args).run Tryz.prog w = .ok (.enter F args) w) (n : Nat) (B : Nat → Bool) (w : World) (hn : n ≤ 100000)
    (hf : ∀ i : Nat, i < n → ∀ W, Below w.heap.size w W → Calls Tryz.prog F (fvs.push (.int .i64 (i : Nat)) ++ lb) W fun e w' => e = .returned (.bool (B i)) ∧ Below W.heap.size W w') :
    Calls Tryz.prog 58 #[.int .i64 n, .func (.func F) fvs lb] w fun e w' => ∃ v, e = .returned v ∧ w'.ownsRow w.heap.size 3 1 v (thN B n).length (ivs (thN B n)) ∧ Below w.heap.size w w' := by
  have HF : Hid (∀ i : Nat, i < n → ∀ W, Below w.heap.size w W → Calls Tryz.prog F (fvs.push (.int .i64 (i : Nat)) ++ lb) W fun e w' => e = .returned (.bool (B i)) ∧ Below W.heap.size W w') := hf
  clear hf
  obtain ⟨i0, hi, hz0, hz1, hz2⟩ := info_parts intInfo7
  go_enter Tryz.func58, Tryz.ntmps58
  go_wp2
  go_loopw [5, 6, 8] (fun v _ i W => ∃ k : Nat, k ≤ n ∧ i = .int .i64 k ∧ Hid (W.ownsRow w.heap.size 3 1 v (thN B k).length (ivs (thN B k))) ∧ Hid (Below w.heap.size w W)) (fun _ _ i _ => n - (intOf i).toNat)
  case atStart => exact ⟨0, Nat.zero_le _, rfl, Lib.hid (World.ownsRow_nil _ _ _ _), Lib.hid (Below.refl _ _)⟩
  case round =>
    obtain ⟨k, hk, rfl, HO, HB⟩ := hrel
    by_cases hlt : k < n
    · have hlti : (k : Int) < (n : Int) := by omega
      have HC := Lib.hid (HF.out k hlt)
      have HL := Lib.hid (thN_len B k)
      cases hb : B k
      · rw [hb] at HC
        have HS : Hid (thN B (k + 1) = thN B k) := Lib.hid (by rw [thN_succ, hb]; rfl)
        clear hb
        go_wp2_with fail
        refine (HC.out _ HB.out).mono ?_
        rintro e w2 ⟨rfl, hb2⟩
        have HO2 := Lib.hid (ownsR_stay HO.out hb2)
        have HB2 := Lib.hid (HB.out.trans (hb2.mono HB.out.size))
        clear hb2
        go_wp2
        go_roundw
        case rel => exact ⟨k + 1, by omega, by go_num, by rw [HS.out]; exact HO2, HB2⟩
        case measure => simp [intOf]; omega
      · rw [hb] at HC
        have HS : Hid (thN B (k + 1) = thN B k ++ [k]) := Lib.hid (by rw [thN_succ, hb]; rfl)
        clear hb
        go_wp2_with fail
        refine (HC.out _ HB.out).mono ?_
        rintro e w2 ⟨rfl, hb2⟩
        have HO2 := Lib.hid (ownsR_stay HO.out hb2)
        have HB2 := Lib.hid (HB.out.trans (hb2.mono HB.out.size))
        clear hb2
        go_wp2_with (at_builtin; refine wpList_append_own _ rfl _ _ 39 rfl w.heap.size 3 i0 (.int .i64 0) 1 8 Tryz.underlying39 hi hz0 hz1 hz2 rfl (by decide) _ _ _ rfl (HO2.out.alloc _) ⟨w2.heap.size, 0, none⟩ 1 1 [.int .i64 (k : Nat)] rfl rfl (World.news_of_block (cs := #[.int .i64 (k : Nat)]) (t := 3) (fr := (0, 0)) (heap_alloc_new w2 _)) (by simp [Value.oneCell']) (by unfold maxLen; have := HL.out; omega) (by have := HL.out; omega) (by have := HB2.out.size; simp; omega) ?_; intro v' w1 hown' hgrow _)
        have HB3 := Lib.hid ((HB2.out.alloc HB2.out.size (.cells #[.int .i64 (k : Nat)] 3)).grown hgrow (by have := HB2.out.size; simp; omega) (fun j e => (HO2.out.lt j e).1))
        have HO3 := Lib.hid hown'
        clear hown' hgrow
        go_roundw
        case rel => exact ⟨k + 1, by omega, by go_num, by rw [HS.out, ivs_snoc, List.length_append]; exact HO3, HB3⟩
        case measure => simp [intOf]; omega
    · obtain rfl : k = n := by omega
      go_wp2
      go_ret
      exact ⟨_, rfl, HO.out, HB.out⟩
/-- A link from which no other one hangs. -/
def enB (m : Nat) (lf : Nat → Int) (i : Nat) : Bool := (List.range m).all fun k => lf k != (i : Int)
theorem enB_true {m : Nat} {lf : Nat → Int} {i : Nat} (h : ∀ k, k < m → lf k ≠ (i : Int)) : enB m lf i = true := by
  unfold enB
  rw [List.all_eq_true]
  intro k hk
  simpa using h k (List.mem_range.1 hk)
theorem enB_false {m : Nat} {lf : Nat → Int} {i k : Nat} (hk : k < m) (h : lf k = (i : Int)) : enB m lf i = false := by
  cases hb : enB m lf i with
  | false => rfl
  | true =>
    unfold enB at hb
    have := List.all_eq_true.1 hb k (List.mem_range.2 hk)
    simp [h] at this
theorem enB_succ (m : Nat) (lf : Nat → Int) (i : Nat) : enB (m + 1) lf i = (enB m lf i && lf m != (i : Int)) := by
  unfold enB
  rw [List.range_succ, List.all_append]
  simp
end Go.Proofs.YtkgfaemdgmmdkaaGreatDoor.Gx
