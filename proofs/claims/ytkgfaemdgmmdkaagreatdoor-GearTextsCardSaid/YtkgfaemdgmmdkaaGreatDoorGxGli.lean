/- limits of a rig. -/
import Derived.Test.YtkgfaemdgmmdkaaGreatDoorGxGen
namespace Go.Proofs.YtkgfaemdgmmdkaaGreatDoor.Gx
open Go.Proofs.YtkgfaemdgmmdkaaGreatDoor
open Go.RowKit
attribute [local go_sem] After.cell After.frozen After.lt After.le After.ne After.ne' After.set_eq After.size_set After.lt_add tx_size tx_toList

/-- The cells of a row of numbers. -/
def gxs (h : Nat → Int) (k : Nat) : List Value := (List.range k).map fun i => .int .i64 (h i)
theorem gxs_succ (h : Nat → Int) (k : Nat) : gxs h (k + 1) = gxs h k ++ [.int .i64 (h k)] := by unfold gxs; rw [List.range_succ, List.map_append]; rfl
theorem gxs_len (h : Nat → Int) (k : Nat) : (gxs h k).length = k := by simp [gxs]
theorem gxs_get {h : Nat → Int} {k i : Nat} (hi : i < k) : (gxs h k)[i]? = some (.int .i64 (h i)) := by
  unfold gxs
  rw [List.getElem?_map, List.getElem?_range hi]; rfl
set_option maxRecDepth 100000 in
set_option maxHeartbeats 2000000 in
theorem limits_any (lv : Value) (a : Option Addr) (n cap : Nat) (gm : Nat → List UInt8) (gl gd : Nat → Int) (gb : Nat → List UInt8) (w : World) (hA : ItAt w a n gm gl gd gb) (hn : n ≤ 1000) :
    Calls Tryz.prog 33 #[.agg #[lv, .slice a n cap]] w fun e w' => ∃ v, e = .returned v ∧ w'.ownsRow w.heap.size 3 1 v n (gxs gl n) ∧ Below w.heap.size w w' := by
  have hnI : (n : Int) ≤ 1000 := by omega
  have HA := Lib.hid hA
  clear hA
  obtain ⟨i0, hi, hz0, hz1, hz2⟩ := info_parts intInfo7
  go_enter Tryz.func33, Tryz.ntmps33
  go_wp2
  go_loopw [3, 5, 9] (fun v _ i W => ∃ k : Nat, k ≤ n ∧ i = .int .i64 k ∧ Hid (W.ownsRow w.heap.size 3 1 v k (gxs gl k)) ∧ Hid (Below w.heap.size w W)) (fun _ _ i _ => n - (intOf i).toNat)
  case atStart => exact ⟨0, Nat.zero_le _, rfl, Lib.hid (World.ownsRow_nil _ _ _ _), Lib.hid ((Below.refl _ _).alloc (Nat.le_refl _) _)⟩
  case round =>
    obtain ⟨k, hk, rfl, HO, HB⟩ := hrel
    by_cases hlt : k < n
    · have hlti : (k : Int) < (n : Int) := by omega
      obtain ⟨b, off, rfl, hb, c0, c1, c2, c3⟩ := (HA.out.on HB.out) k hlt
      have HO1 := Lib.hid (HO.out.alloc (.cells #[.string (tx (gm k)), .int .i64 (gl k), .int .i64 (gd k), .string (tx (gb k))] 33))
      have HB1 := Lib.hid (HB.out.alloc HB.out.size (.cells #[.string (tx (gm k)), .int .i64 (gl k), .int .i64 (gd k), .string (tx (gb k))] 33))
      have HS := Lib.hid (gxs_succ gl k)
      have hbs := HB1.out.size
      go_wp2_with (at_builtin; refine wpList_append_own _ rfl _ _ 39 rfl w.heap.size 3 i0 (.int .i64 0) 1 8 Tryz.underlying39 hi hz0 hz1 hz2 rfl (by decide) _ _ _ rfl (HO1.out.alloc _) ⟨wr.heap.size + 1, 0, none⟩ 1 1 [.int .i64 (gl k)] rfl rfl (World.news_of_block (cs := #[.int .i64 (gl k)]) (t := 3) (fr := (0, 0)) (by have h := heap_alloc_new (wr.alloc (.cells #[.string (tx (gm k)), .int .i64 (gl k), .int .i64 (gd k), .string (tx (gb k))] 33)) (.cells #[.int .i64 (gl k)] 3); rw [World.size_alloc] at h; exact h)) (by simp [Value.oneCell']) (by unfold maxLen; omega) (by omega) (by simp at hbs ⊢; omega) ?_; intro v' w1 hown' hgrow _)
      have HB3 := Lib.hid ((HB1.out.alloc HB1.out.size (.cells #[.int .i64 (gl k)] 3)).grown hgrow (by simp at hbs ⊢; omega) (fun j e => (HO.out.lt j e).1))
      have HO3 := Lib.hid hown'
      clear hown' hgrow
      go_roundw
      case rel => exact ⟨k + 1, by omega, by go_num, by rw [HS.out]; exact HO3, HB3⟩
      case measure => simp [intOf]; omega
    · obtain rfl : k = n := by omega
      go_wp2
      go_ret
      exact ⟨_, rfl, HO.out, HB.out⟩
end Go.Proofs.YtkgfaemdgmmdkaaGreatDoor.Gx
