/- Numbers of 128 bits in the reference: a number without its sign, and whether a product is at most another. -/
import Derived.Shelf.Spec.BitsCarry
import Derived.Test.YtplhbklfaokjbaaDoorClosed
namespace Go.Proofs.YtplhbklfaokjbaaDoor
open Go.Shelf Go.RowKit
def ladd_ren : Go.Shelf.Ren := ⟨fun | 25 => 94 | n => n, fun | 22 => 93 | n => n, fun | n => n⟩
theorem ladd : Go.Proofs.Lays7.n25 Tryd.prog ladd_ren := {
  mixed := by kernel_rfl
  f25 := Tryd.func94.trans (congrArg some (by kernel_rfl))
  t22 := Tryd.underlying93
  a22 := Tryd.isAgg93
  z22 := Tryd.sizeOf93
  v22 := Tryd.zeroValue93
  i22 := by kernel_rfl }
theorem add64_all (x y l c : Nat) (hl : (x + y) % 18446744073709551616 = l) (hc : (x + y) / 18446744073709551616 = c) (w : World) :
    (callFunc 94 #[.int .u64 (x : Int), .int .u64 (y : Int), .int .u64 0]).run Tryd.prog w = .ok (.value (.tuple #[.int .u64 (l : Int), .int .u64 (c : Int)])) w := by
  have := Any7.bits_Add64 ladd x y 0 (by omega) w
  rw [show (x + y + 0) % 18446744073709551616 = l by omega, show (x + y + 0) / 18446744073709551616 = c by omega] at this
  exact this

theorem rsize_any (n : Int) (w : World) (h1 : -9000000000000000000 ≤ n) (h2 : n ≤ 9000000000000000000) :
    Calls Tryd.prog 87 #[.int .i64 n] w fun e w' => e = .returned (.int .u64 (n.natAbs : Nat)) ∧ w = w' := by
  by_cases hn : n < 0
  · have hw : Hid (IntKind.u64.wrap (-IntKind.u64.wrap n) = (n.natAbs : Nat)) := by
      rw [IntKind.wrap_u64, IntKind.wrap_u64]; show _ = _; omega
    clear h1 h2
    go_enter Tryd.func87, Tryd.ntmps87
    go_wp2
    go_ret
    exact ⟨ret_int hw.out, rfl⟩
  · have hw : Hid (IntKind.u64.wrap n = (n.natAbs : Nat)) := by
      rw [IntKind.wrap_u64]; show _ = _; omega
    clear h1 h2
    go_enter Tryd.func87, Tryd.ntmps87
    go_wp2
    go_ret
    exact ⟨ret_int hw.out, rfl⟩

set_option maxRecDepth 100000 in
set_option maxHeartbeats 2000000 in
theorem ratMost_any (a b m n d : Nat) (ha : a ≤ 9000000000000000000) (hb : b ≤ 9000000000000000000) (hm : m ≤ 1000000) (hn : n ≤ 100000000) (hd : d ≤ 9000000000000000000) (w : World) :
    Calls Tryd.prog 86 #[.int .u64 (a : Nat), .int .u64 (b : Nat), .int .u64 (m : Nat), .int .u64 (n : Nat), .int .u64 (d : Nat)] w fun e w' => e = .returned (.bool (decide ((a + b) * m ≤ n * d))) ∧ w = w' := by
  have HX := Lib.hid (mul64_any a m (by omega) (by omega))
  have HY := Lib.hid (mul64_any b m (by omega) (by omega))
  have HZ := Lib.hid (mul64_any n d (by omega) (by omega))
  have p1 := nat_bd ha hm
  have p2 := nat_bd hb hm
  have p3 := nat_bd hn hd
  simp only [Nat.reduceMul] at p1 p2 p3
  have e0 : (a + b) * m = a * m + b * m := Nat.add_mul ..
  rw [e0]
  generalize a * m = X at *
  generalize b * m = Y at *
  generalize n * d = Z at *
  clear e0
  obtain ⟨h, eh⟩ : ∃ h, X / 18446744073709551616 = h := ⟨_, rfl⟩
  obtain ⟨l, el⟩ : ∃ h, X % 18446744073709551616 = h := ⟨_, rfl⟩
  obtain ⟨k, ek⟩ : ∃ h, Y / 18446744073709551616 = h := ⟨_, rfl⟩
  obtain ⟨j, ej⟩ : ∃ h, Y % 18446744073709551616 = h := ⟨_, rfl⟩
  obtain ⟨x, ex⟩ : ∃ h, Z / 18446744073709551616 = h := ⟨_, rfl⟩
  obtain ⟨y, ey⟩ : ∃ h, Z % 18446744073709551616 = h := ⟨_, rfl⟩
  obtain ⟨lo, elo⟩ : ∃ h, (l + j) % 18446744073709551616 = h := ⟨_, rfl⟩
  obtain ⟨c, ec⟩ : ∃ h, (l + j) / 18446744073709551616 = h := ⟨_, rfl⟩
  rw [eh, el] at HX
  rw [ek, ej] at HY
  rw [ex, ey] at HZ
  have HA := Lib.hid (add64_all l j lo c elo ec)
  have key : decide (X + Y ≤ Z) = (decide (h + k + c < x) || ((h : Int) + (k : Int) + (c : Int) == (x : Int)) && decide (lo ≤ y)) := by
    have e : ((h : Int) + (k : Int) + (c : Int) == (x : Int)) = decide (h + k + c = x) := by
      by_cases h1 : h + k + c = x
      · rw [decide_eq_true h1]; exact beq_iff_eq.2 (by omega)
      · rw [decide_eq_false h1]; exact beq_eq_false_iff_ne.2 (by omega)
    rw [e, ← Bool.decide_and, ← Bool.decide_or]
    exact decide_eq_decide.2 (by omega)
  rw [key]
  have s1 : h ≤ 1000000 := by omega
  have s2 : k ≤ 1000000 := by omega
  have s3 : c ≤ 1 := by omega
  clear key eh el ek ej ex ey elo ec p1 p2 p3
  obtain ⟨b1, e1⟩ : ∃ b, decide (h + k + c < x) = b := ⟨_, rfl⟩
  obtain ⟨b2, e2⟩ : ∃ b, ((h : Int) + (k : Int) + (c : Int) == (x : Int)) = b := ⟨_, rfl⟩
  obtain ⟨b3, e3⟩ : ∃ b, decide (lo ≤ y) = b := ⟨_, rfl⟩
  have e1' : decide ((h : Int) + (k : Int) + (c : Int) < (x : Int)) = b1 := by rw [← e1]; exact decide_eq_decide.2 (by omega)
  rw [e1, e2, e3]
  cases b1 <;> cases b2 <;> cases b3
  all_goals
    go_enter Tryd.func86, Tryd.ntmps86
    go_wp2_with (first | (go_at_call 93; (first | (with_reducible refine (HX.out _).mono ?_) | (with_reducible refine (HY.out _).mono ?_) | (with_reducible refine (HZ.out _).mono ?_)); rintro e w1 ⟨rfl, rfl⟩) | (simp only [HA.out]))
    go_ret
    exact ⟨rfl, rfl⟩
end Go.Proofs.YtplhbklfaokjbaaDoor
