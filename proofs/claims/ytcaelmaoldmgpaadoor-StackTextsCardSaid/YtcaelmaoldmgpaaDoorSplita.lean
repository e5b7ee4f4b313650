/- strings.SplitAfter at a line feed, over lists of bytes. -/
import Derived.Test.YtcaelmaoldmgpaaDoorSplitt
namespace Go.Proofs.YtcaelmaoldmgpaaDoor
open Go.RowKit

/-- Words, each but the last one with its mark. -/
def aftL (m : UInt8) : List (List UInt8) → List (List UInt8)
  | [] => []
  | [x] => [x]
  | x :: y :: r => (x ++ [m]) :: aftL m (y :: r)
theorem aftL_cons (m : UInt8) (x : List UInt8) {ws : List (List UInt8)} (h : 1 ≤ ws.length) : aftL m (x :: ws) = (x ++ [m]) :: aftL m ws := by
  match ws, h with
  | y :: r, _ => rfl
theorem aftL_len (m : UInt8) : ∀ ws : List (List UInt8), (aftL m ws).length = ws.length
  | [] => rfl
  | [_] => rfl
  | x :: y :: r => by rw [aftL_cons m x (by simp), List.length_cons, aftL_len m (y :: r)]; rfl
theorem aftL_get (m : UInt8) : ∀ (ws : List (List UInt8)) (i : Nat) (x : List UInt8), ws[i]? = some x → (aftL m ws)[i]? = some (if i + 1 < ws.length then x ++ [m] else x)
  | [], i, x, h => by simp at h
  | [y], i, x, h => by
    match i with
    | 0 => simpa [aftL] using h
    | i + 1 => simp at h
  | z :: y :: r, i, x, h => by
    rw [aftL_cons m z (by simp)]
    match i with
    | 0 => simp at h; simp [h]
    | i + 1 =>
      have := aftL_get m (y :: r) i x (by simpa using h)
      simpa using this
theorem splitK_after (m : UInt8) : ∀ (k : Nat) (s : List UInt8), s.count m = k → Lib.splitK [m] 1 k s = aftL m (wordsL m s)
  | 0, s, h => by
    have hn : Lib.indexByte s m = -1 := by
      by_cases hx : Lib.indexByte s m = -1
      · exact hx
      · have hg := Lib.indexByte_ge s m
        obtain ⟨i, hi⟩ : ∃ i : Nat, Lib.indexByte s m = i := ⟨(Lib.indexByte s m).toNat, by omega⟩
        exact absurd (List.mem_of_getElem? (Lib.indexByte_some hi).1) (List.count_eq_zero.1 h)
    rw [words_miss hn]
    rfl
  | k + 1, s, h => by
    have hg := Lib.indexByte_ge s m
    have hx : Lib.indexByte s m ≠ -1 := fun hx => by
      have : m ∉ s := fun hm => by
        obtain ⟨j, hj⟩ := List.mem_iff_getElem?.1 hm
        exact Lib.indexByte_none hx j hj
      rw [List.count_eq_zero.2 this] at h
      omega
    obtain ⟨i, hi⟩ : ∃ i : Nat, Lib.indexByte s m = i := ⟨(Lib.indexByte s m).toNat, by omega⟩
    have hsm := Lib.indexByte_some hi
    have hlt := (List.getElem?_eq_some_iff.1 hsm.1).1
    have hsp : s = s.take i ++ m :: s.drop (i + 1) := by
      conv => lhs; rw [← List.take_append_drop i s, List.drop_eq_getElem_cons hlt]
      rw [(List.getElem?_eq_some_iff.1 hsm.1).2]
    have hc : (s.drop (i + 1)).count m = k := by
      have h0 : (s.take i).count m = 0 := List.count_eq_zero.2 fun hm => by
        obtain ⟨j, hj⟩ := List.mem_iff_getElem?.1 hm
        have hjl := (List.getElem?_eq_some_iff.1 hj).1
        rw [List.length_take] at hjl
        rw [List.getElem?_take_of_lt (by omega)] at hj
        exact hsm.2 j (by omega) hj
      rw [hsp, List.count_append, h0, List.count_cons_self] at h
      omega
    have hne : (Lib.indexByte s m == -1) = false := beq_eq_false_iff_ne.2 hx
    rw [words_hit hi, aftL_cons m _ (by simp [wordsL])]
    unfold Lib.splitK
    rw [Lib.index_one, hne, hi]
    simp only [Int.toNat_natCast, List.length_cons, List.length_nil]
    rw [← splitK_after m k _ hc]
    have ht : s.take (i + 1) = s.take i ++ [m] := by
      rw [List.take_add_one, hsm.1]; rfl
    rw [ht]
    simp
theorem after_list (s : List UInt8) : (Lib.splitB (tx [10]) 1 (Lib.countB (tx s) (tx [10])) (tx s)).map (·.data.toList) = aftL 10 (wordsL 10 s) := by
  rw [Lib.splitB_data]
  exact splitK_after 10 _ s (Lib.count_one 10 s).symm
theorem genSplit_any {s : List UInt8} (hs : s.length ≤ 65536) {w : World} (hS : Std w) :
    Calls Tryd.prog 43 #[.string (tx s), .string (tx [10]), .int .i64 1, .int .i64 (-1)] w fun e w' => (∃ g, e = .returned (.slice (some ⟨g, 0, none⟩) (wordsL 10 s).length (wordsL 10 s).length) ∧ g < w'.heap.size ∧ ∀ (i : Nat) (x : List UInt8), (aftL 10 (wordsL 10 s))[i]? = some x → w'.cell? ⟨g, i, none⟩ = some (.string (tx x))) ∧ Below w.heap.size w w' := by
  have hz : (tx s).size = s.length := tx_size s
  have h1 : 1 ≤ (tx [10]).size := by rw [tx_size]; simp
  obtain ⟨m, hm⟩ := hS.mx
  have hL := after_list s
  have hlen := Lib.splitB_all (tx [10]) h1 1 _ (tx s) rfl
  have hK : (wordsL 10 s).length = Lib.countB (tx s) (tx [10]) + 1 := by rw [← aftL_len 10, ← hL, List.length_map, hlen]
  have hle : Lib.countB (tx s) (tx [10]) + 1 ≤ s.length + 1 := by rw [← hK]; exact wordsL_len 10 s
  refine (Tryd.strings_genSplit (tx s) (tx [10]) 1 (-1) (Lib.countB (tx s) (tx [10]) + 1) m w (by omega) hm h1 (by rw [tx_size]; simp) (by omega) (by omega) (by rw [if_pos (by omega)]; omega)).mono ?_
  rintro e w' ⟨rfl, rfl⟩
  rw [Nat.add_sub_cancel]
  generalize Lib.countB (tx s) (tx [10]) = K at *
  generalize Lib.splitB (tx [10]) 1 K (tx s) = L at *
  refine ⟨⟨w.heap.size, by rw [hK, hlen], by simp, fun i x hx => ?_⟩, by (repeat' (first | (with_reducible exact Below.refl _ _) | (with_reducible assumption) | (with_reducible refine Below.alloc ?_ ?_ _) | (with_reducible refine Below.drew ?_) | (with_reducible refine below_drewN ?_ _) | (with_reducible refine Below.setCell ?_ ?_ _) | (with_reducible refine below_after ?_ ?_ _) | (with_reducible refine below_set ?_) | (with_reducible refine After.size_le _ ?_) | (with_reducible refine size_alloc_le ?_) | (with_reducible refine size_set_le ?_) | (with_reducible refine size_drewN_le ?_) | go_size))⟩
  rw [← hL, List.getElem?_map] at hx
  obtain ⟨y, hy, rfl⟩ := Option.map_eq_some_iff.1 hx
  rw [tx_data]
  have hf : Lib.cellsOf L (K + 1) = (L.map Value.string).toArray := by rw [← hlen]; exact Lib.cellsOf_full L
  rw [hf]
  simp [go_sem, hy]
set_option maxHeartbeats 400000 in
theorem splitAfter_any {s : List UInt8} (hs : s.length ≤ 65536) {w : World} (hS : Std w) :
    Calls Tryd.prog 19 #[.string (tx s), .string (tx [10])] w fun e w' => (∃ g, e = .returned (.slice (some ⟨g, 0, none⟩) (wordsL 10 s).length (wordsL 10 s).length) ∧ g < w'.heap.size ∧ ∀ (i : Nat) (x : List UInt8), (aftL 10 (wordsL 10 s))[i]? = some x → w'.cell? ⟨g, i, none⟩ = some (.string (tx x))) ∧ Below w.heap.size w w' := by
  have hz : (tx [10]).size = 1 := tx_size [10]
  have HG := Lib.hid (fun W (hW : Below w.heap.size w W) => genSplit_any hs (hS.on hW))
  go_enter Tryd.func19, Tryd.ntmps19
  go_wp2_with fail
  refine (HG.out _ (by (repeat' (first | (with_reducible exact Below.refl _ _) | (with_reducible assumption) | (with_reducible refine Below.alloc ?_ ?_ _) | (with_reducible refine Below.drew ?_) | (with_reducible refine below_drewN ?_ _) | (with_reducible refine Below.setCell ?_ ?_ _) | (with_reducible refine below_after ?_ ?_ _) | (with_reducible refine below_set ?_) | (with_reducible refine After.size_le _ ?_) | (with_reducible refine size_alloc_le ?_) | (with_reducible refine size_set_le ?_) | (with_reducible refine size_drewN_le ?_) | go_size)))).mono ?_
  rintro e w1 ⟨⟨g, rfl, h1, h2⟩, hb⟩
  go_wp2
  go_ret
  exact ⟨⟨g, rfl, h1, h2⟩, hb⟩
end Go.Proofs.YtcaelmaoldmgpaaDoor
