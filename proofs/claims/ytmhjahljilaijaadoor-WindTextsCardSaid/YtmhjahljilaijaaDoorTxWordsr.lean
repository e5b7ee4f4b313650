/- The reference's Words: its contract. -/
import Derived.Test.YtmhjahljilaijaaDoorTxWords
namespace Go.Proofs.YtmhjahljilaijaaDoor.Tx
open Go.Proofs.YtmhjahljilaijaaDoor
open Go.RowKit
attribute [local go_sem] After.cell After.frozen After.lt After.le After.ne After.ne' After.set_eq After.size_set After.lt_add tx_size

section
variable {P : Program} (w : World) {t : TypeId} (ht : P.underlying t = some .string)
include ht
theorem run_tx_index (s : List UInt8) (k : Nat) (c : UInt8) (hk : s[k]? = some c) : (Instr.index t (.string (tx s)) (.int .i64 (k : Nat))).run P w = .ok (.int .u8 (c.toNat : Nat)) w := by
  have hlt : k < s.length := (List.getElem?_eq_some_iff.1 hk).1
  rw [run_index_string w t _ _ _ ht, dif_pos ⟨by omega, by rw [tx_size]; omega⟩]
  have : (tx s)[((k : Nat) : Int).toNat]'(by rw [tx_size]; simpa using hlt) = c := by
    simp only [Int.toNat_natCast]
    have := (List.getElem?_eq_some_iff.1 hk).2
    rw [← this]
    rfl
  rw [this]
theorem run_tx_cut (s : List UInt8) (a b : Nat) (h : a ≤ b) (hb : b ≤ s.length) : (Instr.slice t (.string (tx s)) (some (.int .i64 (a : Nat))) (some (.int .i64 (b : Nat))) none).run P w = .ok (.string (tx ((s.take b).drop a))) w := by
  rw [run_slice_string_if w t _ _ _ _ _ ht, if_pos ⟨by omega, by rw [tx_size]; omega⟩, if_pos ⟨by omega, by omega⟩]
  congr 2
  simp only [Int.toNat_natCast]
  apply ByteArray.ext
  simp [tx, ByteArray.data_extract, List.drop_take]
theorem run_tx_from (s : List UInt8) (a : Nat) (h : a ≤ s.length) : (Instr.slice t (.string (tx s)) (some (.int .i64 (a : Nat))) none none).run P w = .ok (.string (tx (s.drop a))) w := by
  rw [run_slice_string_from_if w t _ _ _ ht, if_pos ⟨by omega, by rw [tx_size]; omega⟩]
  congr 2
  simp only [Int.toNat_natCast]
  apply ByteArray.ext
  simp only [tx, ByteArray.data_extract, ByteArray.size, List.size_toArray, List.extract_toArray, List.extract_eq_take_drop]
  rw [List.take_of_length_le (by simp)]
end
theorem wordsL_len (mark : UInt8) (s : List UInt8) : (wordsL mark s).length ≤ s.length + 1 := by
  have := cutW_len mark s
  simp [wordsL]; omega

end Go.Proofs.YtmhjahljilaijaaDoor.Tx
