/- The reference's Words: its contract. -/
import Derived.Test.YtccjfmhbmieigaaDoorWords
namespace Go.Proofs.YtccjfmhbmieigaaDoor
open Go.RowKit
attribute [local go_sem] After.cell After.frozen After.lt After.le After.ne After.ne' After.set_eq After.size_set After.lt_add tx_size

section
variable {P : Program} (w : World) {t : TypeId} (ht : P.underlying t = some .string)
include ht
theorem run_tx_index (s : List UInt8) (k : Nat) (c : UInt8) (hk : s[k]? = some c) : (Instr.index t (.string (tx s)) (.int .i64 (k : Nat))).run P w = .ok (.int .u8 (c.toNat : Nat)) w := by
  have hlt : k < s.length := (List.getElem?_eq_some_iff.1 hk).1
  rw [run_index_string w t _ _ _ ht, dif_pos ⟨by omega, by rw [tx_size]; omega⟩]
  have : (tx s)[((k : Nat) : Int).toNat]'(by rw [tx_size]; simpa using hlt) = c := by
    simp only [Int.toNat_natCast]
    have := (List.getElem?_eq_some_iff.1 hk).2
    rw [← this]
    rfl
  rw [this]
theorem run_tx_cut (s : List UInt8) (a b : Nat) (h : a ≤ b) (hb : b ≤ s.length) : (Instr.slice t (.string (tx s)) (some (.int .i64 (a : Nat))) (some (.int .i64 (b : Nat))) none).run P w = .ok (.string (tx ((s.take b).drop a))) w := by
  rw [run_slice_string_if w t _ _ _ _ _ ht, if_pos ⟨by omega, by rw [tx_size]; omega⟩, if_pos ⟨by omega, by omega⟩]
  congr 2
  simp only [Int.toNat_natCast]
  apply ByteArray.ext
  simp [tx, ByteArray.data_extract, List.drop_take]
theorem run_tx_from (s : List UInt8) (a : Nat) (h : a ≤ s.length) : (Instr.slice t (.string (tx s)) (some (.int .i64 (a : Nat))) none none).run P w = .ok (.string (tx (s.drop a))) w := by
  rw [run_slice_string_from_if w t _ _ _ ht, if_pos ⟨by omega, by rw [tx_size]; omega⟩]
  congr 2
  simp only [Int.toNat_natCast]
  apply ByteArray.ext
  simp only [tx, ByteArray.data_extract, ByteArray.size, List.size_toArray, List.extract_toArray, List.extract_eq_take_drop]
  rw [List.take_of_length_le (by simp)]
end
theorem wordsL_len (mark : UInt8) (s : List UInt8) : (wordsL mark s).length ≤ s.length + 1 := by
  have := cutW_len mark s
  simp [wordsL]; omega

set_option maxRecDepth 100000 in
set_option maxHeartbeats 2000000 in
theorem words_any (s : List UInt8) (mark : UInt8) (w : World) (hs : s.length ≤ 1000000000) :
    Calls Tryd.prog 22 #[.string (tx s), .int .u8 (mark.toNat : Nat)] w fun e w' => ∃ v, e = .returned v ∧ w'.ownsRow w.heap.size 9 1 v (wordsL mark s).length (wvs (wordsL mark s)) ∧ Below w.heap.size w w' := by
  obtain ⟨i0, hi, hz0, hz1, hz2⟩ := info_parts strInfo
  go_enter Tryd.func22, Tryd.ntmps22
  go_wp2
  go_loopw [5, 6, 7] (fun v f i wr => ∃ k : Nat, k ≤ s.length ∧ i = .int .i64 k ∧ f = .int .i64 (k - (cutW mark (s.take k)).2.length : Nat) ∧ ∃ x : After w, wr = x.w ∧ x.w.ownsRow w.heap.size 9 1 v (cutW mark (s.take k)).1.length (wvs (cutW mark (s.take k)).1)) (fun _ _ i _ => s.length - (intOf i).toNat)
  case atStart => exact ⟨0, by omega, rfl, by simp [cutW], ⟨w, Below.refl _ _⟩, rfl, by simpa [cutW, wvs] using World.ownsRow_nil _ _ _ _⟩
  case round =>
    obtain ⟨k, hk, rfl, rfl, x, rfl, hown⟩ := hrel
    have hsx := x.out.size
    have hcl := cutW_len mark (s.take k)
    rw [List.length_take] at hcl
    obtain ⟨p, hp1, hp2⟩ := cutW_tail mark (s.take k)
    rw [List.length_take, Nat.min_eq_left hk] at hp2
    have hcut : ((s.take k).drop (k - (cutW mark (s.take k)).2.length)) = (cutW mark (s.take k)).2 := by
      rw [show k - (cutW mark (s.take k)).2.length = p.length by omega]
      conv => lhs; rw [hp1]
      simp
    by_cases hlt : k < s.length
    · obtain ⟨c, hc⟩ : ∃ c, s[k]? = some c := ⟨_, List.getElem?_eq_getElem hlt⟩
      have htk : s.take (k + 1) = s.take k ++ [c] := by rw [List.take_add_one, hc]; rfl
      have hix := fun w => run_tx_index (P := Tryd.prog) w Tryd.underlying9 s k c hc
      have hcu := fun w => run_tx_cut (P := Tryd.prog) w Tryd.underlying9 s (k - (cutW mark (s.take k)).2.length) k (by omega) hk
      rw [hcut] at hcu
      have hkn : (k : Int) < (s.length : Int) := by omega
      by_cases hm : c = mark
      · have e0 : (((c.toNat : Nat) : Int) == ((mark.toNat : Nat) : Int)) = true := by rw [hm]; exact beq_self_eq_true _
        have HN := Lib.hid (cutW_snoc_mark mark (s.take k))
        rw [← hm] at HN
        rw [← htk] at HN
        have hl2 : k - (cutW mark (s.take k)).2.length ≤ k := by omega
        have HT := Lib.hid htk
        clear hp1 hp2 hcut htk
        rw [hm] at HN
        generalize (cutW mark (s.take k)).2 = T at *
        generalize (cutW mark (s.take k)).1 = V at *
        generalize k - T.length = F at *
        go_wp2_with (at_builtin; refine wpList_append_own _ rfl _ _ 43 rfl w.heap.size 9 i0 (.string ByteArray.empty) 1 16 Tryd.underlying43 hi hz0 hz1 hz2 rfl (by decide) _ _ _ rfl (hown.alloc _) ⟨x.w.heap.size, 0, none⟩ 1 1 [.string (tx T)] rfl rfl (World.news_of_block (cs := #[.string (tx T)]) (t := 9) (fr := (0, 0)) (heap_alloc_new x.w _)) (by simp [Value.oneCell']) (by unfold maxLen; omega) (by omega) (by simp; omega) ?_; intro v' w1 hown' hgrow _)
        go_roundw
        case rel => exact ⟨k + 1, by omega, by go_num, by rw [HN.out]; simp, ⟨w1, (x.out.alloc hsx _).grown hgrow (by simp; omega) (fun j e => (hown.lt j e).1)⟩, rfl, by rw [HN.out]; simpa [wvs] using hown'⟩
        case measure => simp [intOf]; omega
      · have e0 : (((c.toNat : Nat) : Int) == ((mark.toNat : Nat) : Int)) = false := by
          rw [beq_eq_false_iff_ne]
          intro h
          exact hm (UInt8.toNat_inj.1 (by omega))
        have HN := Lib.hid (cutW_snoc mark c hm (s.take k))
        rw [← htk] at HN
        have hl2 : (cutW mark (s.take k)).2.length ≤ k := by omega
        clear hp1 hp2 hcut htk hm
        generalize (cutW mark (s.take k)).2 = T at *
        generalize (cutW mark (s.take k)).1 = V at *
        have HF : Hid (k - T.length = k + 1 - (T ++ [c]).length) := Lib.hid (by simp)
        generalize k - T.length = F at *
        go_wp2
        go_roundw
        case rel => exact ⟨k + 1, by omega, by go_num, by rw [HN.out, HF.out], x, rfl, by rw [HN.out]; exact hown⟩
        case measure => simp [intOf]; omega
    · obtain rfl : k = s.length := by omega
      rw [List.take_length] at *
      have hfr := fun w => run_tx_from (P := Tryd.prog) w Tryd.underlying9 s (s.length - (cutW mark s).2.length) (by omega)
      rw [hcut] at hfr
      have HW : Hid (wordsL mark s = (cutW mark s).1 ++ [(cutW mark s).2]) := rfl
      clear hp1 hp2 hcut
      generalize (cutW mark s).2 = T at *
      generalize (cutW mark s).1 = V at *
      generalize s.length - T.length = F at *
      go_wp2_with (at_builtin; refine wpList_append_own _ rfl _ _ 43 rfl w.heap.size 9 i0 (.string ByteArray.empty) 1 16 Tryd.underlying43 hi hz0 hz1 hz2 rfl (by decide) _ _ _ rfl (hown.alloc _) ⟨x.w.heap.size, 0, none⟩ 1 1 [.string (tx T)] rfl rfl (World.news_of_block (cs := #[.string (tx T)]) (t := 9) (fr := (0, 0)) (heap_alloc_new x.w _)) (by simp [Value.oneCell']) (by unfold maxLen; omega) (by omega) (by simp; omega) ?_; intro v' w1 hown' hgrow _)
      go_ret
      exact ⟨_, rfl, by rw [HW.out]; simpa [wvs] using hown', (x.out.alloc hsx _).grown hgrow (by simp; omega) (fun j e => (hown.lt j e).1)⟩
end Go.Proofs.YtccjfmhbmieigaaDoor
