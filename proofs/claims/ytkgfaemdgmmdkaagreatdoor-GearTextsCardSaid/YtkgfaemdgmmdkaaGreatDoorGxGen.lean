/- Ends of the reference; two lists of numbers that are the same. -/
import Derived.Test.YtkgfaemdgmmdkaaGreatDoorGxGth
namespace Go.Proofs.YtkgfaemdgmmdkaaGreatDoor.Gx
open Go.Proofs.YtkgfaemdgmmdkaaGreatDoor
open Go.RowKit
attribute [local go_sem] After.cell After.frozen After.lt After.le After.ne After.ne' After.set_eq After.size_set After.lt_add tx_size tx_toList

/-- Where a slice's numbers lie. -/
def NAt (W : World) (v : Value) (L : List Nat) : Prop := ∃ a cap, v = .slice a L.length cap ∧ ∀ i, i < L.length → ∃ b off, a = some ⟨b, off, none⟩ ∧ b < W.heap.size ∧ W.cell? ⟨b, off + i, none⟩ = some (.int .i64 (L.getD i 0 : Nat))
theorem NAt.on {w W : World} {v : Value} {L : List Nat} (h : NAt w v L) (hb : Below w.heap.size w W) : NAt W v L := by
  obtain ⟨a, cap, e, h1⟩ := h
  refine ⟨a, cap, e, fun i hi => ?_⟩
  obtain ⟨b, off, e2, h2, h3⟩ := h1 i hi
  exact ⟨b, off, e2, Nat.lt_of_lt_of_le h2 hb.size, (hb.cell (p := ⟨b, off + i, none⟩) h2).trans h3⟩
theorem nat_of {W : World} {B : Nat} {v : Value} {L : List Nat} (h : W.ownsRow B 3 1 v L.length (ivs L)) : NAt W v L := by
  obtain ⟨a, cap, rfl⟩ := ownsR_shape h
  refine ⟨a, cap, rfl, fun i hi => ?_⟩
  obtain ⟨g, c, e⟩ := Go.Joins.ownsRow_form h (by omega)
  cases e
  refine ⟨g, 0, rfl, (h.lt g rfl).2, ?_⟩
  rw [Nat.zero_add, h.cellAt _ (by omega)]
  unfold ivs
  rw [List.getElem?_map, List.getElem?_eq_getElem hi]
  simp [hi]
set_option maxRecDepth 100000 in
set_option maxHeartbeats 1000000 in
theorem sameInts_any {v v' : Value} {L : List Nat} {w : World} (h : NAt w v L) (h' : NAt w v' L) (hl : L.length ≤ 100000) :
    Calls Tryz.prog 15 #[v, v'] w fun e w' => e = .returned (.bool true) ∧ Below w.heap.size w w' := by
  obtain ⟨a, cap, rfl, h1⟩ := h
  obtain ⟨a2, cap2, rfl, h2⟩ := h'
  have hn : ((L.length : Nat) : Int) ≤ 100000 := by omega
  have H1 := Lib.hid h1
  have H2 := Lib.hid h2
  clear h1 h2 hl
  go_enter Tryz.func15, Tryz.ntmps15
  go_wp2
  go_loopw [5] (fun i W => ∃ k : Nat, k ≤ L.length ∧ i = .int .i64 k ∧ ∃ x : After w, W = x.w) (fun i _ => L.length - (intOf i).toNat)
  case atStart => exact ⟨0, Nat.zero_le _, rfl, ⟨w, Below.refl _ _⟩, rfl⟩
  case round =>
    obtain ⟨k, hk, rfl, x, rfl⟩ := hrel
    by_cases hlt : k < L.length
    · have hlti : (k : Int) < (L.length : Int) := by omega
      obtain ⟨b, off, rfl, hb, c1⟩ := H1.out k hlt
      obtain ⟨b2, off2, rfl, hb2, c2⟩ := H2.out k hlt
      generalize L.getD k 0 = z at *
      go_wp2
      refine wp_region_after (by kernel_rfl) (by kernel_rfl) ?_; (repeat (first | go_big_quiet_step ((fail)) | (refine wpQuiet_step (fun K hK => ?_); go_simp; first | (refine hK _ ?_; clear hK K) | (apply Exists.intro; refine ⟨fun x => ?_, hK _ ?_⟩; (fail); clear hK K)))); refine wpQuiet_nil ?_
      intro y
      go_wp2
      go_roundw
      case rel => exact ⟨k + 1, by omega, by go_num, ⟨_, x.out.trans (y.out.mono x.out.size)⟩, rfl⟩
      case measure => simp [intOf]; omega
    · obtain rfl : k = L.length := by omega
      go_wp2
      go_ret
      exact ⟨rfl, by (repeat' (first | (with_reducible exact Below.refl _ _) | (with_reducible assumption) | (with_reducible refine Below.alloc ?_ ?_ _) | (with_reducible refine Below.drew ?_) | (with_reducible refine below_drewN ?_ _) | (with_reducible refine Below.setCell ?_ ?_ _) | (with_reducible refine below_after ?_ ?_ _) | (with_reducible refine below_set ?_) | (with_reducible refine After.size_le _ ?_) | (with_reducible refine size_alloc_le ?_) | (with_reducible refine size_set_le ?_) | (with_reducible refine size_drewN_le ?_) | go_size))⟩
/-- What Ends answers. -/
def EnR (b : Bool) (L : List Nat) (w' : World) (e : Ending) : Prop := match b with
  | true => ∃ v, e = .returned (.tuple #[v, .int .i64 0]) ∧ NAt w' v L
  | false => e = .returned (.tuple #[.slice none 0 0, .int .i64 1])
section
variable (a : Option Addr) (n cap : Nat) (gm : Nat → List UInt8) (gl gd : Nat → Int) (gb : Nat → List UInt8) (al : Option Addr) (m capl : Nat) (lm : Nat → List UInt8) (lf : Nat → Int) (w : World) (hA : ItAt w a n gm gl gd gb) (hL : LkAt w al m lm lf) (hn : n ≤ 1000) (hm : m ≤ 1000) (hcap : m ≤ capl) (h1 : Sht n gm) (h2 : Sht n gb) (h3 : Sht m lm)
include hA hL hn hm hcap h1 h2 h3
end
end Go.Proofs.YtkgfaemdgmmdkaaGreatDoor.Gx
