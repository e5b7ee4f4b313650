/- The sixth reference's Cut. -/
import Derived.Test.YtmhjahljilaijaaDoorTxWordsr
namespace Go.Proofs.YtmhjahljilaijaaDoor.Tx
open Go.Proofs.YtmhjahljilaijaaDoor
open Go.RowKit
attribute [local go_sem] After.cell After.frozen After.lt After.le After.ne After.ne' After.set_eq After.size_set After.lt_add tx_size

/-- What is cut off behind the first k signs, the last word too where the text ends. -/
def cutT (mark : UInt8) (s : List UInt8) (k : Nat) : List (List UInt8) := if k ≤ s.length then (cutW mark (s.take k)).1 else wordsL mark s
set_option maxRecDepth 100000 in
set_option maxHeartbeats 2000000 in
theorem cut6_any (s : List UInt8) (mark : UInt8) (w : World) (hs : s.length ≤ 1000000000) :
    Calls Tryd.prog 19 #[.string (tx s), .int .u8 (mark.toNat : Nat)] w fun e w' => ∃ v, e = .returned v ∧ w'.ownsRow w.heap.size 9 1 v (wordsL mark s).length (wvs (wordsL mark s)) ∧ Below w.heap.size w w' := by
  obtain ⟨i0, hi, hz0, hz1, hz2⟩ := info_parts strInfo
  go_enter Tryd.func19, Tryd.ntmps19
  go_wp2
  go_loopw [5, 6, 7] (fun v f i wr => ∃ k : Nat, k ≤ s.length + 1 ∧ i = .int .i64 k ∧ (k ≤ s.length → f = .int .i64 (k - (cutW mark (s.take k)).2.length : Nat)) ∧ (∃ f0 : Int, f = .int .i64 f0) ∧ ∃ x : After w, wr = x.w ∧ x.w.ownsRow w.heap.size 9 1 v (cutT mark s k).length (wvs (cutT mark s k))) (fun _ _ i _ => s.length + 1 - (intOf i).toNat)
  case atStart => exact ⟨0, by omega, rfl, fun _ => by simp [cutW], ⟨0, rfl⟩, ⟨w, Below.refl _ _⟩, rfl, by simpa [cutT, cutW, wvs] using World.ownsRow_nil _ _ _ _⟩
  case round =>
    obtain ⟨k, hk, rfl, hf, hff, x, rfl, hown⟩ := hrel
    have hsx := x.out.size
    by_cases hle : k ≤ s.length
    · obtain rfl := hf hle
      clear hf hff
      have eT : cutT mark s k = (cutW mark (s.take k)).1 := if_pos hle
      rw [eT] at hown
      have hcl := cutW_len mark (s.take k)
      rw [List.length_take] at hcl
      obtain ⟨p, hp1, hp2⟩ := cutW_tail mark (s.take k)
      rw [List.length_take, Nat.min_eq_left hle] at hp2
      have hcut : ((s.take k).drop (k - (cutW mark (s.take k)).2.length)) = (cutW mark (s.take k)).2 := by
        rw [show k - (cutW mark (s.take k)).2.length = p.length by omega]
        conv => lhs; rw [hp1]
        simp
      have hcu := fun w => run_tx_cut (P := Tryd.prog) w Tryd.underlying9 s (k - (cutW mark (s.take k)).2.length) k (by omega) hle
      rw [hcut] at hcu
      have hkI : (k : Int) ≤ (s.length : Int) := by omega
      have hkd : decide ((k : Int) ≤ (s.length : Int)) = true := decide_eq_true hkI
      have hl2 : k - (cutW mark (s.take k)).2.length ≤ k := by omega
      by_cases hlt : k < s.length
      · obtain ⟨c, hc⟩ : ∃ c, s[k]? = some c := ⟨_, List.getElem?_eq_getElem hlt⟩
        have htk : s.take (k + 1) = s.take k ++ [c] := by rw [List.take_add_one, hc]; rfl
        have hix := fun w => run_tx_index (P := Tryd.prog) w Tryd.underlying9 s k c hc
        have hkn : ((k : Int) == (s.length : Int)) = false := beq_eq_false_iff_ne.2 (by omega)
        have eT1 : Hid (cutT mark s (k + 1) = (cutW mark (s.take (k + 1))).1) := Lib.hid (if_pos hlt)
        by_cases hm : c = mark
        · have e0 : (((c.toNat : Nat) : Int) == ((mark.toNat : Nat) : Int)) = true := by rw [hm]; exact beq_self_eq_true _
          have HN := Lib.hid (cutW_snoc_mark mark (s.take k))
          rw [← hm] at HN
          rw [← htk] at HN
          clear hp1 hp2 hcut htk eT
          rw [hm] at HN
          generalize (cutW mark (s.take k)).2 = T at *
          generalize (cutW mark (s.take k)).1 = V at *
          generalize k - T.length = F at *
          go_wp2_with (at_builtin; refine wpList_append_own _ rfl _ _ 39 rfl w.heap.size 9 i0 (.string ByteArray.empty) 1 16 Tryd.underlying39 hi hz0 hz1 hz2 rfl (by decide) _ _ _ rfl (hown.alloc _) ⟨x.w.heap.size, 0, none⟩ 1 1 [.string (tx T)] rfl rfl (World.news_of_block (cs := #[.string (tx T)]) (t := 9) (fr := (0, 0)) (heap_alloc_new x.w _)) (by simp [Value.oneCell']) (by unfold maxLen; omega) (by omega) (by simp; omega) ?_; intro v' w1 hown' hgrow _)
          go_roundw
          case rel => exact ⟨k + 1, by omega, by go_num, fun _ => by rw [HN.out]; simp, ⟨_, rfl⟩, ⟨w1, (x.out.alloc hsx _).grown hgrow (by simp; omega) (fun j e => (hown.lt j e).1)⟩, rfl, by rw [eT1.out, HN.out]; simpa [wvs] using hown'⟩
          case measure => simp [intOf]; omega
        · have e0 : (((c.toNat : Nat) : Int) == ((mark.toNat : Nat) : Int)) = false := by
            rw [beq_eq_false_iff_ne]
            intro h
            exact hm (UInt8.toNat_inj.1 (by omega))
          have HN := Lib.hid (cutW_snoc mark c hm (s.take k))
          rw [← htk] at HN
          clear hp1 hp2 hcut htk hm eT
          generalize (cutW mark (s.take k)).2 = T at *
          generalize (cutW mark (s.take k)).1 = V at *
          have HF : Hid (k - T.length = k + 1 - (T ++ [c]).length) := Lib.hid (by simp)
          generalize k - T.length = F at *
          go_wp2
          go_roundw
          case rel => exact ⟨k + 1, by omega, by go_num, fun _ => by rw [HN.out, HF.out], ⟨_, rfl⟩, x, rfl, by rw [eT1.out, HN.out]; exact hown⟩
          case measure => simp [intOf]; omega
      · obtain rfl : k = s.length := by omega
        rw [List.take_length] at *
        have hkn : ((s.length : Int) == (s.length : Int)) = true := beq_self_eq_true _
        have HW : Hid (cutT mark s (s.length + 1) = (cutW mark s).1 ++ [(cutW mark s).2]) := Lib.hid (by unfold cutT; rw [if_neg (by omega)]; rfl)
        clear hp1 hp2 hcut eT
        generalize (cutW mark s).2 = T at *
        generalize (cutW mark s).1 = V at *
        generalize s.length - T.length = F at *
        go_wp2_with (at_builtin; refine wpList_append_own _ rfl _ _ 39 rfl w.heap.size 9 i0 (.string ByteArray.empty) 1 16 Tryd.underlying39 hi hz0 hz1 hz2 rfl (by decide) _ _ _ rfl (hown.alloc _) ⟨x.w.heap.size, 0, none⟩ 1 1 [.string (tx T)] rfl rfl (World.news_of_block (cs := #[.string (tx T)]) (t := 9) (fr := (0, 0)) (heap_alloc_new x.w _)) (by simp [Value.oneCell']) (by unfold maxLen; omega) (by omega) (by simp; omega) ?_; intro v' w1 hown' hgrow _)
        go_roundw
        case rel => exact ⟨s.length + 1, by omega, by first | rfl | go_num, fun h => absurd h (by omega), ⟨_, rfl⟩, ⟨w1, (x.out.alloc hsx _).grown hgrow (by simp; omega) (fun j e => (hown.lt j e).1)⟩, rfl, by rw [HW.out]; simpa [wvs] using hown'⟩
        case measure => simp [intOf]
    · obtain rfl : k = s.length + 1 := by omega
      obtain ⟨f0, rfl⟩ := hff
      have eT : cutT mark s (s.length + 1) = wordsL mark s := by unfold cutT; rw [if_neg (by omega)]
      rw [eT] at hown
      have hkd : decide ((s.length : Int) + 1 ≤ (s.length : Int)) = false := decide_eq_false (by omega)
      have HO := Lib.hid hown
      clear hf eT
      go_wp2
      go_ret
      exact ⟨_, rfl, HO.out, by (repeat' (first | (with_reducible exact Below.refl _ _) | (with_reducible assumption) | (with_reducible refine Below.alloc ?_ ?_ _) | (with_reducible refine Below.drew ?_) | (with_reducible refine below_drewN ?_ _) | (with_reducible refine Below.setCell ?_ ?_ _) | (with_reducible refine below_after ?_ ?_ _) | (with_reducible refine below_set ?_) | (with_reducible refine After.size_le _ ?_) | (with_reducible refine size_alloc_le ?_) | (with_reducible refine size_set_le ?_) | (with_reducible refine size_drewN_le ?_) | go_size))⟩
end Go.Proofs.YtmhjahljilaijaaDoor.Tx
