/- Wrong, in both programs. -/
import Derived.Test.YtnhkkboddoiinaaRetirer
import Derived.Test.YtnhkkboddoiinaaUapp
import Derived.Deep.Onto
namespace Go.Proofs.Ytnhkkboddoiinaa
open Go.RowKit
attribute [local go_sem] After.cell After.frozen After.lt After.le After.ne After.ne' After.set_eq After.size_set After.lt_add

theorem owns_below {B : Nat} {e : TypeId} {k : Nat} {v : Value} {n : Nat} {xs : List Value} {w w' : World} (h : w.ownsRow B e k v n xs) (hb : Below w.heap.size w w') : w'.ownsRow B e k v n xs := by
  obtain ⟨h1, h2 | ⟨g, cap, cur, a1, a2, a3, a4⟩⟩ := h
  · exact ⟨h1, .inl h2⟩
  · exact ⟨h1, .inr ⟨g, cap, cur, a1, a2, (hb.block g (Array.getElem?_eq_some_iff.1 a3).1).trans a3, a4⟩⟩
def ixC (l : List Nat) : List Value := l.map fun (i : Nat) => Value.int .i64 (i : Int)
theorem ixInfo : (Try.prog.info? 3).map (fun i => (i.zero, i.size, i.bytes)) = some (some (.int .i64 0), 1, 8) := by kernel_rfl
/-- Whether the rope could not bear the use k, asked with those before it. -/
def wrB (s d l : Int) (ps : List (Int × Int)) (k : Nat) : Bool := !mayB s l (lft s d (usAt ps k).1 (ps.take k)) (usAt ps k).2
def wrL (s d l : Int) (ps : List (Int × Int)) (n : Nat) : List Nat := (List.range n).filter (wrB s d l ps)
theorem wrL_succ (s d l : Int) (ps : List (Int × Int)) (k : Nat) : wrL s d l ps (k + 1) = wrL s d l ps k ++ if wrB s d l ps k then [k] else [] := by
  unfold wrL
  rw [List.range_succ, List.filter_append]
  cases h : wrB s d l ps k <;> simp [h]
theorem wrL_le (s d l : Int) (ps : List (Int × Int)) (n : Nat) : (wrL s d l ps n).length ≤ n := by
  unfold wrL
  have := List.length_filter_le (wrB s d l ps) (List.range n)
  simpa using this
theorem usAt_take {ps : List (Int × Int)} {k j : Nat} (h : j < k) (_hk : k ≤ ps.length) : usAt (ps.take k) j = usAt ps j := by
  unfold usAt
  simp [List.getD_eq_getElem?_getD, h]
theorem goodU_take {ps : List (Int × Int)} (h : GoodU ps) {k : Nat} (hk : k ≤ ps.length) : GoodU (ps.take k) := by
  refine ⟨by have := h.1; simp; omega, fun j hj => ?_⟩
  have hj' : j < k := by simp at hj; omega
  have := h.2 j (by omega)
  unfold OkU at *
  rw [usAt_take hj' hk, usAt_take (by omega) hk]
  exact this
theorem prc_take {W : World} {B b off cap k : Nat} {ps : List (Int × Int)} (hk : k ≤ ps.length) (hkc : k ≤ cap) (hcap : cap ≤ 9223372036854775807) (hb : b < B) (hc : PrCells W b off ps) : Prc W B (.slice (some ⟨b, off, none⟩) k cap) (ps.take k) := by
  have hlen : (ps.take k).length = k := by simp; omega
  rcases Nat.eq_zero_or_pos k with rfl | h0
  · exact .inr (.inl ⟨_, cap, rfl, hcap, by simp⟩)
  · refine .inr (.inr ⟨b, off, cap, by rw [hlen], by omega, by omega, hcap, hb, fun i hi => ?_⟩)
    rw [hlen] at hi
    have e : (ps.take k).getD i (0, 0) = ps.getD i (0, 0) := usAt_take hi hk
    rw [e]
    exact hc i (by omega)

/-- What Wrong answers of valid arguments. -/
abbrev WrAns (W : World) (s d l : Int) (ps : List (Int × Int)) : Ending → World → Prop := fun e w' => ∃ v, e = .returned (.tuple #[v, .int .i64 0]) ∧ w'.ownsRow W.heap.size 3 1 v (wrL s d l ps ps.length).length (ixC (wrL s d l ps ps.length)) ∧ Below W.heap.size W w'

set_option maxRecDepth 100000 in
set_option maxHeartbeats 2000000 in
theorem wrong_row (s d l : Int) (b off cap : Nat) (ps : List (Int × Int)) (w : World) (hb : b < w.heap.size) (h0 : 0 < ps.length) (hn : ps.length ≤ cap) (hcap : cap ≤ 9223372036854775807) (hc : PrCells w b off ps) (hG : GoodW s d l ps) :
    Calls Try.prog 52 #[.agg #[.int .i64 s, .int .i64 d, .int .i64 l], .slice (some ⟨b, off, none⟩) ps.length cap] w (WrAns w s d l ps) := by
  have h : Prc w w.heap.size (.slice (some ⟨b, off, none⟩) ps.length cap) ps := .inr (.inr ⟨b, off, cap, rfl, h0, hn, hcap, hb, hc⟩)
  have hl := hG.2.1
  have HV : Hid (∀ W, Below w.heap.size w W → _) := fun W hW => wvalid_any s d l _ ps W (prc_on h hW) (by omega) true (by simp [hG])
  have HC := Lib.hid hc
  have HF : Hid (∀ k, k ≤ ps.length → ∀ W, Calls Try.prog 91 #[.agg #[.int .i64 s, .int .i64 d, .int .i64 l, .slice (some ⟨b, off, none⟩) ps.length cap], .int .i64 k] W fun e w' => e = .returned (.agg #[.int .i64 s, .int .i64 d, .int .i64 l, .slice (some ⟨b, off, none⟩) k k]) ∧ Below W.heap.size W w') := fun k hk W => withFirst_row s d l b off ps.length cap k W hk hn hcap
  have HM : Hid (∀ k, k < ps.length → ∀ W, Below w.heap.size w W → Calls Try.prog 85 #[.agg #[.int .i64 s, .int .i64 d, .int .i64 l, .slice (some ⟨b, off, none⟩) k k], .int .i64 (usAt ps k).1, .int .i64 (usAt ps k).2] W fun e w' => e = .returned (.bool (!wrB s d l ps k)) ∧ Below W.heap.size W w') := fun k hk W hW => by
    have := wmay_any s d l (usAt ps k).1 (usAt ps k).2 _ (ps.take k) W (prc_take (Nat.le_of_lt hk) (Nat.le_refl _) (by omega) (Nat.lt_of_lt_of_le hb hW.size) (prCells_on hb hc hW)) ⟨hG.1, goodU_take hG.2 (Nat.le_of_lt hk)⟩ (hG.2.2 k hk).1
    unfold wrB; rw [Bool.not_not]; exact this
  obtain ⟨i0, hi, hz0, hz1, hz2⟩ := info_parts ixInfo
  clear hc h hG
  go_enter Try.func52, Try.ntmps52
  go_wp2_with fail
  refine calls_after (HV.out _ (by (repeat' (first | (with_reducible exact Below.refl _ _) | (with_reducible assumption) | (with_reducible refine Below.alloc ?_ ?_ _) | (with_reducible refine Below.drew ?_) | (with_reducible refine below_drewN ?_ _) | (with_reducible refine Below.setCell ?_ ?_ _) | (with_reducible refine below_after ?_ ?_ _) | (with_reducible refine below_set ?_) | (with_reducible refine After.size_le _ ?_) | (with_reducible refine size_alloc_le ?_) | (with_reducible refine size_set_le ?_) | (with_reducible refine size_drewN_le ?_) | go_size)))) ?_
  intro x1
  clear HV
  have hz_x1 := x1.out.size; (try simp only [World.size_alloc] at hz_x1); (try simp only [World.size_setCell] at hz_x1); (try simp only [World.size_alloc] at hz_x1); have k0_x1 : w.heap.size < x1.w.heap.size := (by omega); have j0_x1 : w.heap.size < x1.w.heap.size + 1 := (by omega); have k1_x1 : w.heap.size + 1 < x1.w.heap.size := (by omega); have j1_x1 : w.heap.size + 1 < x1.w.heap.size + 1 := (by omega); have k2_x1 : b < x1.w.heap.size := (by omega); have j2_x1 : b < x1.w.heap.size + 1 := (by omega)
  have hB1 : Below w.heap.size w x1.w := by (repeat' (first | (with_reducible exact Below.refl _ _) | (with_reducible assumption) | (with_reducible refine Below.alloc ?_ ?_ _) | (with_reducible refine Below.drew ?_) | (with_reducible refine below_drewN ?_ _) | (with_reducible refine Below.setCell ?_ ?_ _) | (with_reducible refine below_after ?_ ?_ _) | (with_reducible refine below_set ?_) | (with_reducible refine After.size_le _ ?_) | (with_reducible refine size_alloc_le ?_) | (with_reducible refine size_set_le ?_) | (with_reducible refine size_drewN_le ?_) | go_size))
  go_wp2_with fail
  go_loopw [7, 8, 9, 18] (fun v t u i wr => ∃ k : Nat, k ≤ ps.length ∧ i = .int .i64 k ∧ ∃ x : After x1.w, wr = x.w ∧ x.w.ownsRow x1.w.heap.size 3 1 v (wrL s d l ps k).length (ixC (wrL s d l ps k))) (fun _ _ _ i _ => ps.length - (intOf i).toNat)
  case atStart => exact ⟨0, by omega, rfl, ⟨x1.w, Below.refl _ _⟩, rfl, World.ownsRow_nil _ _ _ _⟩
  case round =>
    obtain ⟨k, hk, rfl, x, rfl, hown⟩ := hrel
    have hsx := x.out.size
    have HO := Lib.hid hown
    clear hown
    by_cases hlt : k < ps.length
    · obtain ⟨c1, c2⟩ := HC.out k hlt
      have HFk := Lib.hid (HF.out k hk)
      have HMk := Lib.hid (HM.out k hlt)
      have HU : Hid (usAt ps k = ps.getD k (0, 0)) := rfl
      rw [HU.out] at HMk
      have hS := Lib.hid (wrL_succ s d l ps k)
      have hle := wrL_le s d l ps k
      have y1 : b < x.w.heap.size := by omega
      have y2 : w.heap.size < x.w.heap.size := by omega
      have y3 : w.heap.size + 1 < x.w.heap.size := by omega
      have y4 : w.heap.size < x.w.heap.size + 1 := by omega
      have y5 : w.heap.size + 1 < x.w.heap.size + 1 := by omega
      have y6 : b < w.heap.size + 1 := by omega
      have y7 : b < w.heap.size + 1 + 1 := by omega
      generalize ps.getD k (0, 0) = p at *
      obtain ⟨hh, vv⟩ := p
      dsimp only at *
      generalize hw : wrB s d l ps k = q at *
      clear hw
      cases q
      · go_wp2_with fail
        refine wp_region_after (by kernel_rfl) (by kernel_rfl) ?_; (repeat (first | go_big_quiet_step ((first | (go_at_call 91; exact quiet_after (HFk.out _)) | (go_at_call 85; exact quiet_after (HMk.out _ (by (repeat' (first | (with_reducible exact Below.refl _ _) | (with_reducible assumption) | (with_reducible refine Below.alloc ?_ ?_ _) | (with_reducible refine Below.drew ?_) | (with_reducible refine below_drewN ?_ _) | (with_reducible refine Below.setCell ?_ ?_ _) | (with_reducible refine below_after ?_ ?_ _) | (with_reducible refine below_set ?_) | (with_reducible refine After.size_le _ ?_) | (with_reducible refine size_alloc_le ?_) | (with_reducible refine size_set_le ?_) | (with_reducible refine size_drewN_le ?_) | go_size))))))) | (refine wpQuiet_step (fun K hK => ?_); go_simp; first | (refine hK _ ?_; clear hK K) | (apply Exists.intro; refine ⟨fun x => ?_, hK _ ?_⟩; (first | (go_at_call 91; exact quiet_after (HFk.out _)) | (go_at_call 85; exact quiet_after (HMk.out _ (by (repeat' (first | (with_reducible exact Below.refl _ _) | (with_reducible assumption) | (with_reducible refine Below.alloc ?_ ?_ _) | (with_reducible refine Below.drew ?_) | (with_reducible refine below_drewN ?_ _) | (with_reducible refine Below.setCell ?_ ?_ _) | (with_reducible refine below_after ?_ ?_ _) | (with_reducible refine below_set ?_) | (with_reducible refine After.size_le _ ?_) | (with_reducible refine size_alloc_le ?_) | (with_reducible refine size_set_le ?_) | (with_reducible refine size_drewN_le ?_) | go_size)))))); clear hK K)))); refine wpQuiet_nil ?_
        intro y
        go_wp2
        go_roundw
        case rel => exact ⟨k + 1, by omega, by go_num, ⟨_, below_after (x.out.alloc x.out.size _) (by simp; omega) y⟩, rfl, by rw [hS.out]; simpa using owns_below (HO.out.alloc _) y.out⟩
        case measure => simp [intOf]; omega
      · go_wp2_with fail
        refine wp_region_after (by kernel_rfl) (by kernel_rfl) ?_; (repeat (first | go_big_quiet_step ((first | (go_at_call 91; exact quiet_after (HFk.out _)) | (go_at_call 85; exact quiet_after (HMk.out _ (by (repeat' (first | (with_reducible exact Below.refl _ _) | (with_reducible assumption) | (with_reducible refine Below.alloc ?_ ?_ _) | (with_reducible refine Below.drew ?_) | (with_reducible refine below_drewN ?_ _) | (with_reducible refine Below.setCell ?_ ?_ _) | (with_reducible refine below_after ?_ ?_ _) | (with_reducible refine below_set ?_) | (with_reducible refine After.size_le _ ?_) | (with_reducible refine size_alloc_le ?_) | (with_reducible refine size_set_le ?_) | (with_reducible refine size_drewN_le ?_) | go_size))))))) | (refine wpQuiet_step (fun K hK => ?_); go_simp; first | (refine hK _ ?_; clear hK K) | (apply Exists.intro; refine ⟨fun x => ?_, hK _ ?_⟩; (first | (go_at_call 91; exact quiet_after (HFk.out _)) | (go_at_call 85; exact quiet_after (HMk.out _ (by (repeat' (first | (with_reducible exact Below.refl _ _) | (with_reducible assumption) | (with_reducible refine Below.alloc ?_ ?_ _) | (with_reducible refine Below.drew ?_) | (with_reducible refine below_drewN ?_ _) | (with_reducible refine Below.setCell ?_ ?_ _) | (with_reducible refine below_after ?_ ?_ _) | (with_reducible refine below_set ?_) | (with_reducible refine After.size_le _ ?_) | (with_reducible refine size_alloc_le ?_) | (with_reducible refine size_set_le ?_) | (with_reducible refine size_drewN_le ?_) | go_size)))))); clear hK K)))); refine wpQuiet_nil ?_
        intro y
        have hown := owns_below (HO.out.alloc (.cells #[.int .i64 hh, .int .i64 vv] 73)) y.out
        have hbel : Below x1.w.heap.size x1.w y.w := below_after (x.out.alloc x.out.size _) (by simp; omega) y
        have hsz := hbel.size
        go_wp2_with (at_builtin; refine wpList_append_own _ rfl _ _ 66 rfl x1.w.heap.size 3 i0 (.int .i64 0) 1 8 Try.underlying66 hi hz0 hz1 hz2 rfl (by decide) _ _ _ rfl (hown.alloc _) ⟨y.w.heap.size, 0, none⟩ 1 1 [.int .i64 k] rfl rfl (World.news_of_block (cs := #[.int .i64 k]) (t := 3) (fr := (0, 0)) (heap_alloc_new y.w _)) (by simp [Value.oneCell']) (by unfold maxLen; omega) (by omega) (by simp; omega) ?_; intro v' w1 hown' hgrow _)
        go_roundw
        case rel => exact ⟨k + 1, by omega, by go_num, ⟨w1, (hbel.alloc hbel.size _).grown hgrow (by simp; omega) (fun j e => (hown.lt j e).1)⟩, rfl, by rw [hS.out]; simpa [ixC] using hown'⟩
        case measure => simp [intOf]; omega
    · obtain rfl : k = ps.length := by omega
      have hB2 := Lib.hid (hB1.trans (x.out.mono hB1.size))
      have hB1 := Lib.hid hB1.size
      go_wp2
      go_returns
      exact ⟨_, rfl, HO.out.mono hB1.out, hB2.out⟩
set_option maxRecDepth 100000 in
set_option maxHeartbeats 2000000 in
theorem rwrong_row (s d l : Int) (b off cap : Nat) (ps : List (Int × Int)) (w : World) (hb : b < w.heap.size) (h0 : 0 < ps.length) (hn : ps.length ≤ cap) (hcap : cap ≤ 9223372036854775807) (hc : PrCells w b off ps) (hG : GoodW s d l ps) :
    Calls Try.prog 53 #[.agg #[.int .i64 s, .int .i64 d, .int .i64 l], .slice (some ⟨b, off, none⟩) ps.length cap] w (WrAns w s d l ps) := by
  have h : Prc w w.heap.size (.slice (some ⟨b, off, none⟩) ps.length cap) ps := .inr (.inr ⟨b, off, cap, rfl, h0, hn, hcap, hb, hc⟩)
  have hl := hG.2.1
  have HV : Hid (∀ W, Below w.heap.size w W → _) := fun W hW => ropeError_any s d l _ ps 0 0 W (prc_on h hW) (by omega)
  rw [er0, if_pos hG] at HV
  have HC := Lib.hid hc
  have HM : Hid (∀ k, k < ps.length → ∀ W, Below w.heap.size w W → Calls Try.prog 86 #[.agg #[.int .i64 s, .int .i64 d, .int .i64 l], .slice (some ⟨b, off, none⟩) k cap, .int .i64 (usAt ps k).1, .int .i64 (usAt ps k).2] W fun e w' => e = .returned (.bool (!wrB s d l ps k)) ∧ Below W.heap.size W w') := fun k hk W hW => by
    have := rmay_any s d l (usAt ps k).1 (usAt ps k).2 _ (ps.take k) W (prc_take (Nat.le_of_lt hk) (by omega) hcap (Nat.lt_of_lt_of_le hb hW.size) (prCells_on hb hc hW)) ⟨hG.1, goodU_take hG.2 (Nat.le_of_lt hk)⟩ (hG.2.2 k hk).1 (hG.2.2 k hk).2.1
    unfold wrB; rw [Bool.not_not]; exact this
  obtain ⟨i0, hi, hz0, hz1, hz2⟩ := info_parts ixInfo
  clear hc h hG
  go_enter Try.func53, Try.ntmps53
  go_wp2_with fail
  refine calls_after (HV.out _ (by (repeat' (first | (with_reducible exact Below.refl _ _) | (with_reducible assumption) | (with_reducible refine Below.alloc ?_ ?_ _) | (with_reducible refine Below.drew ?_) | (with_reducible refine below_drewN ?_ _) | (with_reducible refine Below.setCell ?_ ?_ _) | (with_reducible refine below_after ?_ ?_ _) | (with_reducible refine below_set ?_) | (with_reducible refine After.size_le _ ?_) | (with_reducible refine size_alloc_le ?_) | (with_reducible refine size_set_le ?_) | (with_reducible refine size_drewN_le ?_) | go_size)))) ?_
  intro x1
  clear HV
  have hz_x1 := x1.out.size; (try simp only [World.size_alloc] at hz_x1); (try simp only [World.size_setCell] at hz_x1); (try simp only [World.size_alloc] at hz_x1); have k0_x1 : w.heap.size < x1.w.heap.size := (by omega); have j0_x1 : w.heap.size < x1.w.heap.size + 1 := (by omega); have k1_x1 : b < x1.w.heap.size := (by omega); have j1_x1 : b < x1.w.heap.size + 1 := (by omega)
  have hB1 : Below w.heap.size w x1.w := by (repeat' (first | (with_reducible exact Below.refl _ _) | (with_reducible assumption) | (with_reducible refine Below.alloc ?_ ?_ _) | (with_reducible refine Below.drew ?_) | (with_reducible refine below_drewN ?_ _) | (with_reducible refine Below.setCell ?_ ?_ _) | (with_reducible refine below_after ?_ ?_ _) | (with_reducible refine below_set ?_) | (with_reducible refine After.size_le _ ?_) | (with_reducible refine size_alloc_le ?_) | (with_reducible refine size_set_le ?_) | (with_reducible refine size_drewN_le ?_) | go_size))
  go_wp2_with fail
  go_loopw [7, 8] (fun v i wr => ∃ k : Nat, k ≤ ps.length ∧ i = .int .i64 k ∧ ∃ x : After x1.w, wr = x.w ∧ x.w.ownsRow x1.w.heap.size 3 1 v (wrL s d l ps k).length (ixC (wrL s d l ps k))) (fun _ i _ => ps.length - (intOf i).toNat)
  case atStart => exact ⟨0, by omega, rfl, ⟨x1.w, Below.refl _ _⟩, rfl, World.ownsRow_nil _ _ _ _⟩
  case round =>
    obtain ⟨k, hk, rfl, x, rfl, hown⟩ := hrel
    have hsx := x.out.size
    have HO := Lib.hid hown
    clear hown
    by_cases hlt : k < ps.length
    · obtain ⟨c1, c2⟩ := HC.out k hlt
      have HMk := Lib.hid (HM.out k hlt)
      have HU : Hid (usAt ps k = ps.getD k (0, 0)) := rfl
      rw [HU.out] at HMk
      have hS := Lib.hid (wrL_succ s d l ps k)
      have hle := wrL_le s d l ps k
      have y1 : b < x.w.heap.size := by omega
      have y2 : w.heap.size < x.w.heap.size := by omega
      have y6 : b < w.heap.size + 1 := by omega
      have hkc : k ≤ cap := by omega
      generalize ps.getD k (0, 0) = p at *
      obtain ⟨hh, vv⟩ := p
      dsimp only at *
      generalize hw : wrB s d l ps k = q at *
      clear hw
      cases q
      · go_wp2_with fail
        refine wp_region_after (by kernel_rfl) (by kernel_rfl) ?_; (repeat (first | go_big_quiet_step ((go_at_call 86; exact quiet_after (HMk.out _ (by (repeat' (first | (with_reducible exact Below.refl _ _) | (with_reducible assumption) | (with_reducible refine Below.alloc ?_ ?_ _) | (with_reducible refine Below.drew ?_) | (with_reducible refine below_drewN ?_ _) | (with_reducible refine Below.setCell ?_ ?_ _) | (with_reducible refine below_after ?_ ?_ _) | (with_reducible refine below_set ?_) | (with_reducible refine After.size_le _ ?_) | (with_reducible refine size_alloc_le ?_) | (with_reducible refine size_set_le ?_) | (with_reducible refine size_drewN_le ?_) | go_size)))))) | (refine wpQuiet_step (fun K hK => ?_); go_simp; first | (refine hK _ ?_; clear hK K) | (apply Exists.intro; refine ⟨fun x => ?_, hK _ ?_⟩; (go_at_call 86; exact quiet_after (HMk.out _ (by (repeat' (first | (with_reducible exact Below.refl _ _) | (with_reducible assumption) | (with_reducible refine Below.alloc ?_ ?_ _) | (with_reducible refine Below.drew ?_) | (with_reducible refine below_drewN ?_ _) | (with_reducible refine Below.setCell ?_ ?_ _) | (with_reducible refine below_after ?_ ?_ _) | (with_reducible refine below_set ?_) | (with_reducible refine After.size_le _ ?_) | (with_reducible refine size_alloc_le ?_) | (with_reducible refine size_set_le ?_) | (with_reducible refine size_drewN_le ?_) | go_size))))); clear hK K)))); refine wpQuiet_nil ?_
        intro y
        go_wp2
        go_roundw
        case rel => exact ⟨k + 1, by omega, by go_num, ⟨_, x.out.trans (y.out.mono x.out.size)⟩, rfl, by rw [hS.out]; simpa using owns_below HO.out y.out⟩
        case measure => simp [intOf]; omega
      · go_wp2_with fail
        refine wp_region_after (by kernel_rfl) (by kernel_rfl) ?_; (repeat (first | go_big_quiet_step ((go_at_call 86; exact quiet_after (HMk.out _ (by (repeat' (first | (with_reducible exact Below.refl _ _) | (with_reducible assumption) | (with_reducible refine Below.alloc ?_ ?_ _) | (with_reducible refine Below.drew ?_) | (with_reducible refine below_drewN ?_ _) | (with_reducible refine Below.setCell ?_ ?_ _) | (with_reducible refine below_after ?_ ?_ _) | (with_reducible refine below_set ?_) | (with_reducible refine After.size_le _ ?_) | (with_reducible refine size_alloc_le ?_) | (with_reducible refine size_set_le ?_) | (with_reducible refine size_drewN_le ?_) | go_size)))))) | (refine wpQuiet_step (fun K hK => ?_); go_simp; first | (refine hK _ ?_; clear hK K) | (apply Exists.intro; refine ⟨fun x => ?_, hK _ ?_⟩; (go_at_call 86; exact quiet_after (HMk.out _ (by (repeat' (first | (with_reducible exact Below.refl _ _) | (with_reducible assumption) | (with_reducible refine Below.alloc ?_ ?_ _) | (with_reducible refine Below.drew ?_) | (with_reducible refine below_drewN ?_ _) | (with_reducible refine Below.setCell ?_ ?_ _) | (with_reducible refine below_after ?_ ?_ _) | (with_reducible refine below_set ?_) | (with_reducible refine After.size_le _ ?_) | (with_reducible refine size_alloc_le ?_) | (with_reducible refine size_set_le ?_) | (with_reducible refine size_drewN_le ?_) | go_size))))); clear hK K)))); refine wpQuiet_nil ?_
        intro y
        have hown := owns_below HO.out y.out
        have hbel : Below x1.w.heap.size x1.w y.w := x.out.trans (y.out.mono x.out.size)
        have hsz := hbel.size
        go_wp2_with (at_builtin; refine wpList_append_own _ rfl _ _ 66 rfl x1.w.heap.size 3 i0 (.int .i64 0) 1 8 Try.underlying66 hi hz0 hz1 hz2 rfl (by decide) _ _ _ rfl (hown.alloc _) ⟨y.w.heap.size, 0, none⟩ 1 1 [.int .i64 k] rfl rfl (World.news_of_block (cs := #[.int .i64 k]) (t := 3) (fr := (0, 0)) (heap_alloc_new y.w _)) (by simp [Value.oneCell']) (by unfold maxLen; omega) (by omega) (by simp; omega) ?_; intro v' w1 hown' hgrow _)
        go_roundw
        case rel => exact ⟨k + 1, by omega, by go_num, ⟨w1, (hbel.alloc hbel.size _).grown hgrow (by simp; omega) (fun j e => (hown.lt j e).1)⟩, rfl, by rw [hS.out]; simpa [ixC] using hown'⟩
        case measure => simp [intOf]; omega
    · obtain rfl : k = ps.length := by omega
      have hB2 := Lib.hid (hB1.trans (x.out.mono hB1.size))
      have hB1 := Lib.hid hB1.size
      go_wp2
      go_returns
      exact ⟨_, rfl, HO.out.mono hB1.out, hB2.out⟩

set_option maxRecDepth 100000 in
set_option maxHeartbeats 1000000 in
theorem wrong_empty (s d l : Int) (a : Option Addr) (cap : Nat) (w : World) (hG : GoodR s d l) (h : Prc w w.heap.size (.slice a 0 cap) []) :
    Calls Try.prog 52 #[.agg #[.int .i64 s, .int .i64 d, .int .i64 l], .slice a 0 cap] w (WrAns w s d l []) := by
  have hW : GoodW s d l [] := ⟨hG, by decide⟩
  have HV : Hid (∀ W, Below w.heap.size w W → _) := fun W hW' => wvalid_any s d l _ [] W (prc_on h hW') (by simp) true (by simp [hW])
  clear h hW
  go_enter Try.func52, Try.ntmps52
  go_wp2_with fail
  refine calls_after (HV.out _ (by (repeat' (first | (with_reducible exact Below.refl _ _) | (with_reducible assumption) | (with_reducible refine Below.alloc ?_ ?_ _) | (with_reducible refine Below.drew ?_) | (with_reducible refine below_drewN ?_ _) | (with_reducible refine Below.setCell ?_ ?_ _) | (with_reducible refine below_after ?_ ?_ _) | (with_reducible refine below_set ?_) | (with_reducible refine After.size_le _ ?_) | (with_reducible refine size_alloc_le ?_) | (with_reducible refine size_set_le ?_) | (with_reducible refine size_drewN_le ?_) | go_size)))) ?_
  intro x1
  clear HV
  go_wp2_with fail
  go_loopw [7, 8, 9, 18] (fun v t u i wr => i = .int .i64 0 ∧ v = .slice none 0 0 ∧ wr = x1.w) (fun _ _ _ _ _ => 0)
  case atStart => exact ⟨rfl, rfl, rfl⟩
  case round =>
    obtain ⟨rfl, rfl, rfl⟩ := hrel
    go_wp2
    go_returns
    exact ⟨_, rfl, World.ownsRow_nil _ _ _ _, by (repeat' (first | (with_reducible exact Below.refl _ _) | (with_reducible assumption) | (with_reducible refine Below.alloc ?_ ?_ _) | (with_reducible refine Below.drew ?_) | (with_reducible refine below_drewN ?_ _) | (with_reducible refine Below.setCell ?_ ?_ _) | (with_reducible refine below_after ?_ ?_ _) | (with_reducible refine below_set ?_) | (with_reducible refine After.size_le _ ?_) | (with_reducible refine size_alloc_le ?_) | (with_reducible refine size_set_le ?_) | (with_reducible refine size_drewN_le ?_) | go_size))⟩
set_option maxRecDepth 100000 in
set_option maxHeartbeats 1000000 in
theorem rwrong_empty (s d l : Int) (a : Option Addr) (cap : Nat) (w : World) (hG : GoodR s d l) (h : Prc w w.heap.size (.slice a 0 cap) []) :
    Calls Try.prog 53 #[.agg #[.int .i64 s, .int .i64 d, .int .i64 l], .slice a 0 cap] w (WrAns w s d l []) := by
  have hW : GoodW s d l [] := ⟨hG, by decide⟩
  have HV : Hid (∀ W, Below w.heap.size w W → _) := fun W hW' => ropeError_any s d l _ [] 0 0 W (prc_on h hW') (by simp)
  rw [er0, if_pos hW] at HV
  clear h hW
  go_enter Try.func53, Try.ntmps53
  go_wp2_with fail
  refine calls_after (HV.out _ (by (repeat' (first | (with_reducible exact Below.refl _ _) | (with_reducible assumption) | (with_reducible refine Below.alloc ?_ ?_ _) | (with_reducible refine Below.drew ?_) | (with_reducible refine below_drewN ?_ _) | (with_reducible refine Below.setCell ?_ ?_ _) | (with_reducible refine below_after ?_ ?_ _) | (with_reducible refine below_set ?_) | (with_reducible refine After.size_le _ ?_) | (with_reducible refine size_alloc_le ?_) | (with_reducible refine size_set_le ?_) | (with_reducible refine size_drewN_le ?_) | go_size)))) ?_
  intro x1
  clear HV
  go_wp2_with fail
  go_loopw [7, 8] (fun v i wr => i = .int .i64 0 ∧ v = .slice none 0 0 ∧ wr = x1.w) (fun _ _ _ => 0)
  case atStart => exact ⟨rfl, rfl, rfl⟩
  case round =>
    obtain ⟨rfl, rfl, rfl⟩ := hrel
    go_wp2
    go_returns
    exact ⟨_, rfl, World.ownsRow_nil _ _ _ _, by (repeat' (first | (with_reducible exact Below.refl _ _) | (with_reducible assumption) | (with_reducible refine Below.alloc ?_ ?_ _) | (with_reducible refine Below.drew ?_) | (with_reducible refine below_drewN ?_ _) | (with_reducible refine Below.setCell ?_ ?_ _) | (with_reducible refine below_after ?_ ?_ _) | (with_reducible refine below_set ?_) | (with_reducible refine After.size_le _ ?_) | (with_reducible refine size_alloc_le ?_) | (with_reducible refine size_set_le ?_) | (with_reducible refine size_drewN_le ?_) | go_size))⟩

theorem wrong_any (s d l : Int) (v : Value) (ps : List (Int × Int)) (w : World) (h : Prc w w.heap.size v ps) (hG : GoodW s d l ps) :
    Calls Try.prog 52 #[.agg #[.int .i64 s, .int .i64 d, .int .i64 l], v] w (WrAns w s d l ps) := by
  have h' := h
  rcases h with ⟨rfl, rfl⟩ | ⟨p, cap, rfl, _, rfl⟩ | ⟨b, off, cap, rfl, h0, h1, h2, hb, hc⟩
  · exact wrong_empty s d l none 0 w hG.1 h'
  · exact wrong_empty s d l _ cap w hG.1 h'
  · exact wrong_row s d l b off cap ps w hb h0 h1 h2 hc hG
theorem rwrong_any (s d l : Int) (v : Value) (ps : List (Int × Int)) (w : World) (h : Prc w w.heap.size v ps) (hG : GoodW s d l ps) :
    Calls Try.prog 53 #[.agg #[.int .i64 s, .int .i64 d, .int .i64 l], v] w (WrAns w s d l ps) := by
  have h' := h
  rcases h with ⟨rfl, rfl⟩ | ⟨p, cap, rfl, _, rfl⟩ | ⟨b, off, cap, rfl, h0, h1, h2, hb, hc⟩
  · exact rwrong_empty s d l none 0 w hG.1 h'
  · exact rwrong_empty s d l _ cap w hG.1 h'
  · exact rwrong_row s d l b off cap ps w hb h0 h1 h2 hc hG

set_option maxRecDepth 100000 in
set_option maxHeartbeats 400000 in
theorem wrong_bad (s d l : Int) (v : Value) (ps : List (Int × Int)) (w : World) (h : Prc w w.heap.size v ps) (hl : ps.length ≤ 1000) (hG : ¬ GoodW s d l ps) :
    Calls Try.prog 52 #[.agg #[.int .i64 s, .int .i64 d, .int .i64 l], v] w fun e w' => e = .returned (.tuple #[.slice none 0 0, .int .i64 1]) ∧ Below w.heap.size w w' := by
  obtain ⟨a, cap, hv⟩ := prc_slice h
  have HV : Hid (∀ W, Below w.heap.size w W → _) := fun W hW => wvalid_any s d l v ps W (prc_on h hW) hl false (by simp [hG])
  clear h hG
  subst hv
  generalize ps.length = n at *
  go_enter Try.func52, Try.ntmps52
  go_wp2_with fail
  refine calls_after (HV.out _ (by (repeat' (first | (with_reducible exact Below.refl _ _) | (with_reducible assumption) | (with_reducible refine Below.alloc ?_ ?_ _) | (with_reducible refine Below.drew ?_) | (with_reducible refine below_drewN ?_ _) | (with_reducible refine Below.setCell ?_ ?_ _) | (with_reducible refine below_after ?_ ?_ _) | (with_reducible refine below_set ?_) | (with_reducible refine After.size_le _ ?_) | (with_reducible refine size_alloc_le ?_) | (with_reducible refine size_set_le ?_) | (with_reducible refine size_drewN_le ?_) | go_size)))) ?_
  intro x1
  go_wp2
  go_returns
  exact ⟨rfl, by (repeat' (first | (with_reducible exact Below.refl _ _) | (with_reducible assumption) | (with_reducible refine Below.alloc ?_ ?_ _) | (with_reducible refine Below.drew ?_) | (with_reducible refine below_drewN ?_ _) | (with_reducible refine Below.setCell ?_ ?_ _) | (with_reducible refine below_after ?_ ?_ _) | (with_reducible refine below_set ?_) | (with_reducible refine After.size_le _ ?_) | (with_reducible refine size_alloc_le ?_) | (with_reducible refine size_set_le ?_) | (with_reducible refine size_drewN_le ?_) | go_size))⟩
set_option maxRecDepth 100000 in
set_option maxHeartbeats 400000 in
theorem rwrong_bad (s d l : Int) (v : Value) (ps : List (Int × Int)) (w : World) (h : Prc w w.heap.size v ps) (hl : ps.length ≤ 1000) (hG : ¬ GoodW s d l ps) :
    Calls Try.prog 53 #[.agg #[.int .i64 s, .int .i64 d, .int .i64 l], v] w fun e w' => e = .returned (.tuple #[.slice none 0 0, .int .i64 1]) ∧ Below w.heap.size w w' := by
  obtain ⟨a, cap, hv⟩ := prc_slice h
  have HV : Hid (∀ W, Below w.heap.size w W → _) := fun W hW => ropeError_any s d l v ps 0 0 W (prc_on h hW) hl
  rw [er0, if_neg hG] at HV
  clear h hG
  subst hv
  generalize ps.length = n at *
  go_enter Try.func53, Try.ntmps53
  go_wp2_with fail
  refine calls_after (HV.out _ (by (repeat' (first | (with_reducible exact Below.refl _ _) | (with_reducible assumption) | (with_reducible refine Below.alloc ?_ ?_ _) | (with_reducible refine Below.drew ?_) | (with_reducible refine below_drewN ?_ _) | (with_reducible refine Below.setCell ?_ ?_ _) | (with_reducible refine below_after ?_ ?_ _) | (with_reducible refine below_set ?_) | (with_reducible refine After.size_le _ ?_) | (with_reducible refine size_alloc_le ?_) | (with_reducible refine size_set_le ?_) | (with_reducible refine size_drewN_le ?_) | go_size)))) ?_
  intro x1
  go_wp2
  go_returns
  exact ⟨rfl, by (repeat' (first | (with_reducible exact Below.refl _ _) | (with_reducible assumption) | (with_reducible refine Below.alloc ?_ ?_ _) | (with_reducible refine Below.drew ?_) | (with_reducible refine below_drewN ?_ _) | (with_reducible refine Below.setCell ?_ ?_ _) | (with_reducible refine below_after ?_ ?_ _) | (with_reducible refine below_set ?_) | (with_reducible refine After.size_le _ ?_) | (with_reducible refine size_alloc_le ?_) | (with_reducible refine size_set_le ?_) | (with_reducible refine size_drewN_le ?_) | go_size))⟩
end Go.Proofs.Ytnhkkboddoiinaa
