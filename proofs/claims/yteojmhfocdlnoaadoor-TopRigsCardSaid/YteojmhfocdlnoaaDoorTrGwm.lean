/- Is there a fault? slices.ContainsFunc over the faults; Weak's closure; faults. -/
import Derived.Test.YteojmhfocdlnoaaDoorTrGwk
namespace Go.Proofs.YteojmhfocdlnoaaDoor.Tr
open Go.Proofs.YteojmhfocdlnoaaDoor
open Go.RowKit
attribute [local go_sem] After.cell After.frozen After.lt After.le After.ne After.ne' After.set_eq After.size_set After.lt_add tx_size tx_toList

def ixF (fb : Nat → Bool) : Nat → Int
  | 0 => -1
  | k + 1 => if ixF fb k = -1 then (if fb k then (k : Nat) else -1) else ixF fb k
set_option maxRecDepth 100000 in
set_option maxHeartbeats 2000000 in
theorem indexF_any (Bf Bo Bi Bb : Nat) (Fv : Nat → Value) (fb : Nat → Bool) (w : World) (hF : ∀ k, k < 3 → w.cell? ⟨Bf, k, none⟩ = some (Fv k)) (hs : Bf < w.heap.size)
    (hC : ∀ k, k < 3 → ∀ W, Below w.heap.size w W → Calls Tryd.prog 34 #[.agg #[Fv k], .pointer (some ⟨Bo, 0, none⟩), .pointer (some ⟨Bi, 0, none⟩), .pointer (some ⟨Bb, 0, none⟩)] W fun e w' => e = .returned (.bool (fb k)) ∧ Below W.heap.size W w') :
    Calls Tryd.prog 47 #[.slice (some ⟨Bf, 0, none⟩) 3 3, .func (.func 34) #[] #[.pointer (some ⟨Bo, 0, none⟩), .pointer (some ⟨Bi, 0, none⟩), .pointer (some ⟨Bb, 0, none⟩)]] w fun e w' => (∃ r : Int, e = .returned (.int .i64 r) ∧ decide (0 ≤ r) = (fb 0 || fb 1 || fb 2) ∧ -1 ≤ r ∧ r ≤ 3) ∧ Below w.heap.size w w' := by
  have HF := Lib.hid hF
  have HC : Hid (∀ k, k < 3 → ∀ W, Below w.heap.size w W → _) := hC
  clear hF hC
  go_enter Tryd.func47, Tryd.ntmps47
  go_wp2
  go_loopw [5, 8] (fun _ i W => ∃ k : Nat, k ≤ 3 ∧ i = .int .i64 k ∧ Hid (∀ j, j < k → fb j = false) ∧ ∃ x : After w, W = x.w) (fun _ i _ => 3 - (intOf i).toNat)
  case atStart => exact ⟨0, Nat.zero_le _, rfl, Lib.hid (fun j hj => by omega), ⟨w, Below.refl _ _⟩, rfl⟩
  case round =>
    obtain ⟨k, hk, rfl, HT, x, rfl⟩ := hrel
    by_cases hlt : k < 3
    · have hlti : (k : Int) < 3 := by omega
      have c0 := HF.out k hlt
      have HCk := Lib.hid (HC.out k hlt)
      cases hb : fb k
      · rw [hb] at HCk
        have HE := Lib.hid hb
        clear hb
        generalize Fv k = fv at *
        go_wp2_with fail
        refine calls_after2 (HCk.out _ x.out) ?_
        intro y
        go_wp2
        go_roundw
        case rel => exact ⟨k + 1, by omega, by go_num, Lib.hid (fun j hj => by
          by_cases e2 : j = k
          · subst e2; exact HE.out
          · exact HT.out j (by omega)), y, rfl⟩
        case measure => simp [intOf]; omega
      · rw [hb] at HCk
        have HE : Hid (decide (0 ≤ ((k : Nat) : Int)) = (fb 0 || fb 1 || fb 2)) := Lib.hid (by
          rw [decide_eq_true (by omega)]
          rcases (show k = 0 ∨ k = 1 ∨ k = 2 by omega) with rfl | rfl | rfl <;> simp [hb])
        clear hb
        generalize Fv k = fv at *
        go_wp2_with fail
        refine calls_after2 (HCk.out _ x.out) ?_
        intro y
        go_wp2
        go_returns
        exact ⟨⟨_, rfl, HE.out, by omega, by omega⟩, by (repeat' (first | (with_reducible exact Below.refl _ _) | (with_reducible assumption) | (with_reducible refine Below.alloc ?_ ?_ _) | (with_reducible refine Below.drew ?_) | (with_reducible refine below_drewN ?_ _) | (with_reducible refine Below.setCell ?_ ?_ _) | (with_reducible refine below_after ?_ ?_ _) | (with_reducible refine below_set ?_) | (with_reducible refine After.size_le _ ?_) | (with_reducible refine size_alloc_le ?_) | (with_reducible refine size_set_le ?_) | (with_reducible refine size_drewN_le ?_) | go_size))⟩
    · obtain rfl : k = 3 := by omega
      have HE : Hid (decide (0 ≤ (-1 : Int)) = (fb 0 || fb 1 || fb 2)) := Lib.hid (by rw [HT.out 0 (by omega), HT.out 1 (by omega), HT.out 2 (by omega)]; rfl)
      go_wp2
      go_returns
      exact ⟨⟨_, rfl, HE.out, by omega, by omega⟩, by (repeat' (first | (with_reducible exact Below.refl _ _) | (with_reducible assumption) | (with_reducible refine Below.alloc ?_ ?_ _) | (with_reducible refine Below.drew ?_) | (with_reducible refine below_drewN ?_ _) | (with_reducible refine Below.setCell ?_ ?_ _) | (with_reducible refine below_after ?_ ?_ _) | (with_reducible refine below_set ?_) | (with_reducible refine After.size_le _ ?_) | (with_reducible refine size_alloc_le ?_) | (with_reducible refine size_set_le ?_) | (with_reducible refine size_drewN_le ?_) | go_size))⟩
set_option maxRecDepth 100000 in
set_option maxHeartbeats 2000000 in
theorem containsF_any (Bf Bo Bi Bb : Nat) (Fv : Nat → Value) (fb : Nat → Bool) (w : World) (hF : ∀ k, k < 3 → w.cell? ⟨Bf, k, none⟩ = some (Fv k)) (hs : Bf < w.heap.size)
    (hC : ∀ k, k < 3 → ∀ W, Below w.heap.size w W → Calls Tryd.prog 34 #[.agg #[Fv k], .pointer (some ⟨Bo, 0, none⟩), .pointer (some ⟨Bi, 0, none⟩), .pointer (some ⟨Bb, 0, none⟩)] W fun e w' => e = .returned (.bool (fb k)) ∧ Below W.heap.size W w') :
    Calls Tryd.prog 33 #[.slice (some ⟨Bf, 0, none⟩) 3 3, .func (.func 34) #[] #[.pointer (some ⟨Bo, 0, none⟩), .pointer (some ⟨Bi, 0, none⟩), .pointer (some ⟨Bb, 0, none⟩)]] w fun e w' => e = .returned (.bool (fb 0 || fb 1 || fb 2)) ∧ Below w.heap.size w w' := by
  have HI := Lib.hid (indexF_any Bf Bo Bi Bb Fv fb w hF hs hC)
  clear hF hC hs
  generalize (fb 0 || fb 1 || fb 2) = b at *
  go_enter Tryd.func33, Tryd.ntmps33
  go_wp2_with fail
  refine HI.out.mono ?_
  rintro e w2 ⟨⟨r, rfl, hr, hr1, hr2⟩, hb2⟩
  have HB := Lib.hid hb2
  have HR := Lib.hid hr
  clear hb2 hr HI
  go_wp2
  go_ret
  exact ⟨by rw [← HR.out]; rfl, HB.out⟩
/-- Is a link weak? -/
def wkB (day : Int) (nk : Nat) (gs : Nat → List UInt8) (gl gd : Nat → Int) (gb : Nat → List UInt8) (bo : Nat → Int) (i : Nat) : Bool := decide (gd i < day) || (fdN gs nk (gb i)).isSome || decide (gl i < bo i)
def fbW (day : Int) (nk : Nat) (gs : Nat → List UInt8) (gl gd : Nat → Int) (gb : Nat → List UInt8) (bo : Nat → Int) (i : Nat) : Nat → Bool
  | 0 => decide (gd i < day)
  | 1 => (fdN gs nk (gb i)).isSome
  | _ => decide (gl i < bo i)
def fvW (Bd Bk : Nat) : Nat → Value
  | 0 => .func (.func 43) #[] #[.pointer (some ⟨Bd, 0, none⟩)]
  | 1 => .func (.func 44) #[] #[.pointer (some ⟨Bk, 0, none⟩)]
  | _ => .func (.func 46) #[] #[]
set_option maxRecDepth 100000 in
set_option maxHeartbeats 2000000 in
/-- Weak's question about a link. -/
theorem weak1_any (Ba Bo Bb Bf Bd Bk : Nat) (a2 ab ak : Option Addr) (m c2 cb nk ck i : Nat) (gs gm : Nat → List UInt8) (gl gd : Nat → Int) (gb : Nat → List UInt8) (bo : Nat → Int) (day : Int) (w : World)
    (ha : w.cell? ⟨Ba, 0, none⟩ = some (.slice (some ⟨Bf, 0, none⟩) 3 3)) (hF : ∀ k, k < 3 → w.cell? ⟨Bf, k, none⟩ = some (fvW Bd Bk k)) (ho : w.cell? ⟨Bo, 1, none⟩ = some (.slice a2 m c2)) (hb : w.cell? ⟨Bb, 0, none⟩ = some (.slice ab m cb)) (hd : w.cell? ⟨Bd, 0, none⟩ = some (.int .i64 day)) (hk : w.cell? ⟨Bk, 0, none⟩ = some (.slice ak nk ck))
    (hT : TAt w ak nk gs) (hn : nk ≤ 9223372036854775807) (hI : ItAt w a2 m gm gl gd gb) (hG : GAt w ab m bo) (him : i < m) (hm : m ≤ 1000) :
    Calls Tryd.prog 32 #[.int .i64 (i : Nat), .pointer (some ⟨Ba, 0, none⟩), .pointer (some ⟨Bo, 0, none⟩), .pointer (some ⟨Bb, 0, none⟩)] w fun e w' => e = .returned (.bool (wkB day nk gs gl gd gb bo i)) ∧ Below w.heap.size w w' := by
  have hB := (Below.refl w.heap.size w).alloc (Nat.le_refl _) (.cells #[.int .i64 (i : Nat)] 3)
  have lift : ∀ {p : Addr} {v : Value}, w.cell? p = some v → (w.alloc (.cells #[.int .i64 (i : Nat)] 3)).cell? p = some v := fun {p v} h => (hB.cell (p := p) (World.block_lt_of_cell? w _ h)).trans h
  have ci : (w.alloc (.cells #[.int .i64 (i : Nat)] 3)).cell? ⟨w.heap.size, 0, none⟩ = some (.int .i64 (i : Nat)) := by simp [go_sem]
  have ha := lift ha
  have HC := Lib.hid (containsF_any Bf Bo w.heap.size Bb (fvW Bd Bk) (fbW day nk gs gl gd gb bo i) _ (fun k hk => lift (hF k hk)) (by have := World.block_lt_of_cell? w _ (hF 0 (by omega)); simp at this ⊢; omega) (fun k hk3 W hW => by
    have on : ∀ {p : Addr} {v : Value}, w.cell? p = some v → W.cell? p = some v := fun {p v} h => (hW.cell (p := p) (World.block_lt_of_cell? _ _ (lift h))).trans (lift h)
    have hi := (hW.cell (p := ⟨w.heap.size, 0, none⟩) (World.block_lt_of_cell? _ _ ci)).trans ci
    have hwW : Below w.heap.size w W := hB.trans (hW.mono (by simp))
    rcases (show k = 0 ∨ k = 1 ∨ k = 2 by omega) with rfl | rfl | rfl
    · exact weak11_1 Bo w.heap.size Bb none a2 ab m 0 c2 cb i gm gl gd gb bo day Bd W (on ho) hi (on hb) (hI.on hwW) (hG.on hwW) him hm (on hd)
    · exact weak11_2 Bo w.heap.size Bb none a2 ab m 0 c2 cb i gm gl gd gb bo Bk ak nk ck gs W (on ho) hi (on hb) (hI.on hwW) (hG.on hwW) him hm (on hk) (hT.on hwW) hn
    · exact weak11_3 Bo w.heap.size Bb none a2 ab m 0 c2 cb i gm gl gd gb bo W (on ho) hi (on hb) (hI.on hwW) (hG.on hwW) him hm))
  have HW : Hid (wkB day nk gs gl gd gb bo i = (fbW day nk gs gl gd gb bo i 0 || fbW day nk gs gl gd gb bo i 1 || fbW day nk gs gl gd gb bo i 2)) := Lib.hid rfl
  generalize (fbW day nk gs gl gd gb bo i 0 || fbW day nk gs gl gd gb bo i 1 || fbW day nk gs gl gd gb bo i 2) = r at *
  have HB := Lib.hid hB
  clear lift hF ho hb hd hk hT hI hG hB
  go_enter Tryd.func32, Tryd.ntmps32
  go_wp2_with fail
  refine HC.out.mono ?_
  rintro e w2 ⟨rfl, hb2⟩
  have HB2 := Lib.hid (HB.out.trans (hb2.mono HB.out.size))
  clear hb2 ha ci
  go_wp2
  go_ret
  exact ⟨by rw [HW.out]; rfl, HB2.out⟩
theorem faults_mk (ak : Option Addr) (nk ck : Nat) (day : Int) (w : World) :
    Calls Tryd.prog 31 #[.slice ak nk ck, .int .i64 day] w fun e w' => e = .returned (.slice (some ⟨w.heap.size + 2, 0, none⟩) 3 3) ∧ ((w.alloc (.cells #[.slice ak nk ck] 48)).alloc (.cells #[.int .i64 day] 3)).alloc (.cells #[fvW (w.heap.size + 1) w.heap.size 0, fvW (w.heap.size + 1) w.heap.size 1, fvW (w.heap.size + 1) w.heap.size 2] 71) = w' := by
  go_enter Tryd.func31, Tryd.ntmps31
  go_wp2
  go_ret
  exact ⟨rfl, rfl⟩
end Go.Proofs.YteojmhfocdlnoaaDoor.Tr
