/- strings.Split at a blank, over lists of bytes. -/
import Derived.Test.YtkgfaemdgmmdkaaGreatDoorGxStd
import Derived.Lib.CountLaws
import Derived.Lib.SplitLaws
namespace Go.Proofs.YtkgfaemdgmmdkaaGreatDoor.Gx
open Go.Proofs.YtkgfaemdgmmdkaaGreatDoor
open Go.RowKit

theorem split_list (s : List UInt8) : (Lib.splitB (tx [32]) 0 (Lib.countB (tx s) (tx [32])) (tx s)).map (·.data.toList) = wordsL 32 s := by
  rw [Lib.splitB_data]
  exact splitK_words 32 _ s (Lib.count_one 32 s).symm
theorem split_any {s : List UInt8} (hs : s.length ≤ 65536) {w : World} (hS : Std w) :
    Calls Tryz.prog 39 #[.string (tx s), .string (tx [32])] w fun e w' => (∃ v, e = .returned v ∧ TRow w' v (wordsL 32 s)) ∧ Below w.heap.size w w' := by
  have hz : (tx s).size = s.length := tx_size s
  have h1 : 1 ≤ (tx [32]).size := by rw [tx_size]; simp
  obtain ⟨m, hm⟩ := hS.mx
  have hL := split_list s
  have hlen := Lib.splitB_all (tx [32]) h1 0 _ (tx s) rfl
  refine (Tryz.strings_Split (tx s) (tx [32]) m w (by omega) hm h1).mono ?_
  rintro e w' ⟨rfl, rfl⟩
  generalize Lib.countB (tx s) (tx [32]) = K at *
  generalize Lib.splitB (tx [32]) 0 K (tx s) = L at *
  have hwl : (wordsL 32 s).length = K + 1 := by rw [← hL, List.length_map, hlen]
  refine ⟨⟨_, rfl, some ⟨w.heap.size, 0, none⟩, K + 1, by rw [hwl], fun _ => ⟨w.heap.size, rfl, by simp, fun i x hx => ?_⟩⟩, by (repeat' (first | (with_reducible exact Below.refl _ _) | (with_reducible assumption) | (with_reducible refine Below.alloc ?_ ?_ _) | (with_reducible refine Below.drew ?_) | (with_reducible refine below_drewN ?_ _) | (with_reducible refine Below.setCell ?_ ?_ _) | (with_reducible refine below_after ?_ ?_ _) | (with_reducible refine below_set ?_) | (with_reducible refine After.size_le _ ?_) | (with_reducible refine size_alloc_le ?_) | (with_reducible refine size_set_le ?_) | (with_reducible refine size_drewN_le ?_) | go_size))⟩
  rw [← hL, List.getElem?_map] at hx
  obtain ⟨y, hy, rfl⟩ := Option.map_eq_some_iff.1 hx
  rw [tx_data]
  simp [go_sem, hy]
end Go.Proofs.YtkgfaemdgmmdkaaGreatDoor.Gx
