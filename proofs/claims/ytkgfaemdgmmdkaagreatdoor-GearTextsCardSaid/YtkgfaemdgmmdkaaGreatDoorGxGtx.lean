/- Texts and slices of bytes: what serves all of stage 7. -/
import Derived.Test.YtkgfaemdgmmdkaaGreatDoorProg
import Derived.Test.YtkgfaemdgmmdkaaGreatDoorAfter
import Derived.WalkKit
import Derived.WalkSpells
import Derived.WalkLawsBesides
import Derived.Deep.QuietTactic
import Derived.BigQuiet
import Derived.Deep.RegionWith
import Derived.RegionTactic
import Derived.LoopTactic
import Derived.Lib.Hide
import Derived.Below
import Derived.KernelRfl
import Derived.Handy
import Derived.StillTailTactics
import Derived.Laws.DeepStrings4
import Derived.Laws.Strings3
import Derived.OwnWalk
import Derived.Deep.DeepCutAuto
import Derived.Laws.AppendOwn
import Derived.Laws.AppendOwnNone
import Derived.Laws.OwnMore
import Derived.Deep.AppendLies
import Derived.Lib.SmallJoins
namespace Go.Proofs.YtkgfaemdgmmdkaaGreatDoor.Gx
open Go.Proofs.YtkgfaemdgmmdkaaGreatDoor
open Go.RowKit

/-- A text. -/
def tx (l : List UInt8) : ByteArray := ⟨l.toArray⟩
theorem tx_size (l : List UInt8) : (tx l).size = l.length := by simp [tx, ByteArray.size]
theorem tx_toList (l : List UInt8) : (tx l).toList = l := ByteArray.toList_mk l
theorem tx_data (y : ByteArray) : tx y.data.toList = y := by cases y; simp [tx]
theorem tx_inj {a b : List UInt8} (h : tx a = tx b) : a = b := by
  have := congrArg ByteArray.toList h
  rwa [tx_toList, tx_toList] at this
section
variable {P : Program} (w : World) {t : TypeId} (ht : P.underlying t = some .string)
include ht
theorem run_tx_index (s : List UInt8) (k : Nat) (c : UInt8) (hk : s[k]? = some c) : (Instr.index t (.string (tx s)) (.int .i64 (k : Nat))).run P w = .ok (.int .u8 (c.toNat : Nat)) w := by
  have hlt : k < s.length := (List.getElem?_eq_some_iff.1 hk).1
  rw [run_index_string w t _ _ _ ht, dif_pos ⟨by omega, by rw [tx_size]; omega⟩]
  have : (tx s)[((k : Nat) : Int).toNat]'(by rw [tx_size]; simpa using hlt) = c := by
    simp only [Int.toNat_natCast]
    have := (List.getElem?_eq_some_iff.1 hk).2
    rw [← this]
    rfl
  rw [this]
theorem run_tx_cut (s : List UInt8) (a b : Nat) (h : a ≤ b) (hb : b ≤ s.length) : (Instr.slice t (.string (tx s)) (some (.int .i64 (a : Nat))) (some (.int .i64 (b : Nat))) none).run P w = .ok (.string (tx ((s.take b).drop a))) w := by
  rw [run_slice_string_if w t _ _ _ _ _ ht, if_pos ⟨by omega, by rw [tx_size]; omega⟩, if_pos ⟨by omega, by omega⟩]
  congr 2
  simp only [Int.toNat_natCast]
  apply ByteArray.ext
  simp [tx, ByteArray.data_extract, List.drop_take]
theorem run_tx_from (s : List UInt8) (a : Nat) (h : a ≤ s.length) : (Instr.slice t (.string (tx s)) (some (.int .i64 (a : Nat))) none none).run P w = .ok (.string (tx (s.drop a))) w := by
  rw [run_slice_string_from_if w t _ _ _ ht, if_pos ⟨by omega, by rw [tx_size]; omega⟩]
  congr 2
  simp only [Int.toNat_natCast]
  apply ByteArray.ext
  simp only [tx, ByteArray.data_extract, ByteArray.size, List.size_toArray, List.extract_toArray, List.extract_eq_take_drop]
  rw [List.take_of_length_le (by simp)]
end

section
variable {P : Program} (w : World) {t : TypeId} (ht : P.underlying t = some .string)
include ht
theorem run_tx_to (s : List UInt8) (b : Nat) (h : b ≤ s.length) : (Instr.slice t (.string (tx s)) none (some (.int .i64 (b : Nat))) none).run P w = .ok (.string (tx (s.take b))) w := by
  rw [run_slice_string_to_if w t _ _ _ ht, if_pos ⟨by omega, by rw [tx_size]; omega⟩]
  congr 2
  simp only [Int.toNat_natCast]
  apply ByteArray.ext
  simp [tx, ByteArray.data_extract]
end
end Go.Proofs.YtkgfaemdgmmdkaaGreatDoor.Gx
