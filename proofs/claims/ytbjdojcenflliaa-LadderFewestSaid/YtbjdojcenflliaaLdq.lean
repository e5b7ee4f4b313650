/- SameInts of two lists that hold the same; Sound in both programs. -/
import Derived.Test.YtbjdojcenflliaaLds
import Derived.Test.YtbjdojcenflliaaLdk
namespace Go.Proofs.Ytbjdojcenflliaa
open Go.RowKit Go.Shelf
attribute [local go_sem] Oper.semAt_some
attribute [local go_sem] After.cell After.frozen After.lt After.le After.ne After.ne' After.set_eq After.size_set After.lt_add

theorem nat_dat {W : World} {v : Value} {L : List Nat} (h : NAt W v L) : ∃ a cap, v = .slice a L.length cap ∧ DAt W a L.length (fun k => (L.getD k 0 : Nat)) := by
  rcases h with ⟨rfl, rfl⟩ | ⟨b, off, cap, rfl, hb, hc⟩
  · exact ⟨none, 0, rfl, fun k hk => absurd hk (by simp)⟩
  · exact ⟨_, cap, rfl, fun k hk => ⟨b, off, rfl, hb, hc k hk⟩⟩
set_option maxHeartbeats 1000000 in
theorem sameInts_d (a a' : Option Addr) (n c c' : Nat) (f : Nat → Int) (w : World) (hn : n ≤ 100000) (hc : DAt w a n f) (hc' : DAt w a' n f) :
    Calls Try.prog 14 #[.slice a n c, .slice a' n c'] w fun e w' => e = .returned (.bool true) ∧ Below w.heap.size w w' := by
  have HC := Lib.hid hc
  have HC' := Lib.hid hc'
  clear hc hc'
  go_enter Try.func14, Try.ntmps14
  go_wp2
  go_loopw [5] (fun i wr => ∃ k : Nat, k ≤ n ∧ i = .int .i64 k ∧ ∃ x : After w, wr = x.w) (fun i _ => n - (intOf i).toNat)
  case atStart => exact ⟨0, by omega, rfl, ⟨w, Below.refl _ _⟩, rfl⟩
  case round =>
    obtain ⟨k, hk, rfl, x, rfl⟩ := hrel
    by_cases hlt : k < n
    · obtain ⟨b, off, rfl, hb, c1⟩ := HC.out k hlt
      obtain ⟨b', off', rfl, hb', c2⟩ := HC'.out k hlt
      go_wp2
      refine wp_region_after (by kernel_rfl) (by kernel_rfl) ?_; (repeat (first | go_big_quiet_step ((fail)) | (refine wpQuiet_step (fun K hK => ?_); go_simp; first | (refine hK _ ?_; clear hK K) | (apply Exists.intro; refine ⟨fun x => ?_, hK _ ?_⟩; (fail); clear hK K)))); refine wpQuiet_nil ?_
      intro y
      go_wp2
      go_roundw
      case rel => exact ⟨k + 1, by omega, by go_num, ⟨_, x.out.trans (y.out.mono x.out.size)⟩, rfl⟩
      case measure => simp [intOf]; omega
    · obtain rfl : n = k := by omega
      go_wp2
      go_ret
      exact ⟨rfl, by (repeat' (first | (with_reducible exact Below.refl _ _) | (with_reducible assumption) | (with_reducible refine Below.alloc ?_ ?_ _) | (with_reducible refine Below.drew ?_) | (with_reducible refine below_drewN ?_ _) | (with_reducible refine Below.setCell ?_ ?_ _) | (with_reducible refine below_after ?_ ?_ _) | (with_reducible refine below_set ?_) | (with_reducible refine After.size_le _ ?_) | (with_reducible refine size_alloc_le ?_) | (with_reducible refine size_set_le ?_) | (with_reducible refine size_drewN_le ?_) | go_size))⟩
theorem sameInts3 {w : World} {v v' : Value} {L : List Nat} (h : NAt w v L) (h' : NAt w v' L) (hl : L.length ≤ 100000) : Calls Try.prog 14 #[v, v'] w fun e w' => e = .returned (.bool true) ∧ Below w.heap.size w w' := by
  obtain ⟨a, c, rfl, h1⟩ := nat_dat h
  obtain ⟨a', c', rfl, h2⟩ := nat_dat h'
  exact sameInts_d a a' L.length c c' _ w hl h1 h2
/-- The sound ones among the first k. -/
def sdL (sd : Nat → Bool) (k : Nat) : List Nat := (List.range k).filter sd
theorem sdL_succ (sd : Nat → Bool) (k : Nat) : sdL sd (k + 1) = sdL sd k ++ (if sd k then [k] else []) := by
  unfold sdL
  rw [List.range_succ, List.filter_append]
  cases h : sd k <;> simp [h]
theorem sdL_len (sd : Nat → Bool) (k : Nat) : (sdL sd k).length ≤ k := by
  unfold sdL
  have := List.length_filter_le sd (List.range k)
  simpa using this
theorem nat_own {W : World} {B : Nat} {v : Value} {L : List Nat} (h : W.ownsRow B 3 1 v L.length (nvs L)) : NAt W v L := by
  rcases Nat.eq_zero_or_pos L.length with h0 | h0
  · have hL : L = [] := List.length_eq_zero_iff.1 h0
    subst hL
    rcases Go.Joins.ownsRow_forms h with ⟨rfl, _⟩ | ⟨g, c, rfl⟩
    · exact .inl ⟨rfl, rfl⟩
    · exact .inr ⟨g, 0, c, rfl, (h.lt g rfl).2, fun i hi => absurd hi (by simp)⟩
  · exact nat_of_own h h0
set_option maxRecDepth 100000 in
set_option maxHeartbeats 1000000 in
theorem Sound_bad (a : Option Addr) (n cap : Nat) (hg : Nat → Int) (sd : Nat → Bool) (w : World) (hA : JtAt w a n hg sd) (hn : n ≤ 9223372036854775807) (hv : ¬ VjP n hg) :
    Calls Try.prog 12 #[.slice a n cap] w fun e w' => e = .returned (.tuple #[.slice none 0 0, .int .i64 1]) ∧ Below w.heap.size w w' := by
  have HV := Lib.hid (fun W (hW : Below w.heap.size w W) => validJoints_any a n cap hg sd W (hA.on hW) hn)
  rw [decide_eq_false hv] at HV
  clear hA
  go_enter Try.func12, Try.ntmps12
  go_wp2_with fail
  refine calls_after (HV.out _ (by (repeat' (first | (with_reducible exact Below.refl _ _) | (with_reducible assumption) | (with_reducible refine Below.alloc ?_ ?_ _) | (with_reducible refine Below.drew ?_) | (with_reducible refine below_drewN ?_ _) | (with_reducible refine Below.setCell ?_ ?_ _) | (with_reducible refine below_after ?_ ?_ _) | (with_reducible refine below_set ?_) | (with_reducible refine After.size_le _ ?_) | (with_reducible refine size_alloc_le ?_) | (with_reducible refine size_set_le ?_) | (with_reducible refine size_drewN_le ?_) | go_size)))) ?_
  intro x1
  go_wp2
  go_returns
  exact ⟨rfl, by (repeat' (first | (with_reducible exact Below.refl _ _) | (with_reducible assumption) | (with_reducible refine Below.alloc ?_ ?_ _) | (with_reducible refine Below.drew ?_) | (with_reducible refine below_drewN ?_ _) | (with_reducible refine Below.setCell ?_ ?_ _) | (with_reducible refine below_after ?_ ?_ _) | (with_reducible refine below_set ?_) | (with_reducible refine After.size_le _ ?_) | (with_reducible refine size_alloc_le ?_) | (with_reducible refine size_set_le ?_) | (with_reducible refine size_drewN_le ?_) | go_size))⟩
set_option maxRecDepth 100000 in
set_option maxHeartbeats 1000000 in
theorem rSound_bad (a : Option Addr) (n cap : Nat) (hg : Nat → Int) (sd : Nat → Bool) (w : World) (hA : JtAt w a n hg sd) (hn : n ≤ 9223372036854775807) (hv : ¬ VjP n hg) :
    Calls Try.prog 13 #[.slice a n cap] w fun e w' => e = .returned (.tuple #[.slice none 0 0, .int .i64 1]) ∧ Below w.heap.size w w' := by
  have HV := Lib.hid (fun W (hW : Below w.heap.size w W) => rvalidJoints_any a n cap hg sd W (hA.on hW) hn)
  rw [decide_eq_false hv] at HV
  clear hA
  go_enter Try.func13, Try.ntmps13
  go_wp2_with fail
  refine calls_after (HV.out _ (by (repeat' (first | (with_reducible exact Below.refl _ _) | (with_reducible assumption) | (with_reducible refine Below.alloc ?_ ?_ _) | (with_reducible refine Below.drew ?_) | (with_reducible refine below_drewN ?_ _) | (with_reducible refine Below.setCell ?_ ?_ _) | (with_reducible refine below_after ?_ ?_ _) | (with_reducible refine below_set ?_) | (with_reducible refine After.size_le _ ?_) | (with_reducible refine size_alloc_le ?_) | (with_reducible refine size_set_le ?_) | (with_reducible refine size_drewN_le ?_) | go_size)))) ?_
  intro x1
  go_wp2
  go_returns
  exact ⟨rfl, by (repeat' (first | (with_reducible exact Below.refl _ _) | (with_reducible assumption) | (with_reducible refine Below.alloc ?_ ?_ _) | (with_reducible refine Below.drew ?_) | (with_reducible refine below_drewN ?_ _) | (with_reducible refine Below.setCell ?_ ?_ _) | (with_reducible refine below_after ?_ ?_ _) | (with_reducible refine below_set ?_) | (with_reducible refine After.size_le _ ?_) | (with_reducible refine size_alloc_le ?_) | (with_reducible refine size_set_le ?_) | (with_reducible refine size_drewN_le ?_) | go_size))⟩
set_option maxRecDepth 100000 in
set_option maxHeartbeats 1000000 in
theorem Sound_ok (a : Option Addr) (n cap : Nat) (hg : Nat → Int) (sd : Nat → Bool) (w : World) (hA : JtAt w a n hg sd) (hn : n ≤ 9223372036854775807) (hv : VjP n hg) :
    Calls Try.prog 12 #[.slice a n cap] w fun e w' => (∃ v, e = .returned (.tuple #[v, .int .i64 0]) ∧ NAt w' v (sdL sd n)) ∧ Below w.heap.size w w' := by
  obtain ⟨i0, hi, hz0, hz1, hz2⟩ := info_parts intInfo3
  have HV := Lib.hid (fun W (hW : Below w.heap.size w W) => validJoints_any a n cap hg sd W (hA.on hW) hn)
  rw [decide_eq_true hv] at HV
  have hnI : (n : Int) ≤ 200 := by have := hv.1; omega
  have HA := Lib.hid hA
  clear hA
  go_enter Try.func12, Try.ntmps12
  go_wp2_with fail
  refine calls_after (HV.out _ (by (repeat' (first | (with_reducible exact Below.refl _ _) | (with_reducible assumption) | (with_reducible refine Below.alloc ?_ ?_ _) | (with_reducible refine Below.drew ?_) | (with_reducible refine below_drewN ?_ _) | (with_reducible refine Below.setCell ?_ ?_ _) | (with_reducible refine below_after ?_ ?_ _) | (with_reducible refine below_set ?_) | (with_reducible refine After.size_le _ ?_) | (with_reducible refine size_alloc_le ?_) | (with_reducible refine size_set_le ?_) | (with_reducible refine size_drewN_le ?_) | go_size)))) ?_
  intro x1
  have HB1 : Hid (Below w.heap.size w x1.w) := Lib.hid (by (repeat' (first | (with_reducible exact Below.refl _ _) | (with_reducible assumption) | (with_reducible refine Below.alloc ?_ ?_ _) | (with_reducible refine Below.drew ?_) | (with_reducible refine below_drewN ?_ _) | (with_reducible refine Below.setCell ?_ ?_ _) | (with_reducible refine below_after ?_ ?_ _) | (with_reducible refine below_set ?_) | (with_reducible refine After.size_le _ ?_) | (with_reducible refine size_alloc_le ?_) | (with_reducible refine size_set_le ?_) | (with_reducible refine size_drewN_le ?_) | go_size)))
  have hs1 := HB1.out.size
  have HA1 := Lib.hid (HA.out.on HB1.out)
  obtain ⟨S, hS⟩ : ∃ S, x1.w.heap.size = S := ⟨_, rfl⟩
  go_wp2
  go_loopw [4, 12] (fun v i W => ∃ k : Nat, k ≤ n ∧ i = .int .i64 k ∧ S ≤ W.heap.size ∧ Hid (Below S x1.w W ∧ W.ownsRow S 3 1 v (sdL sd k).length (nvs (sdL sd k)))) (fun _ i _ => n - (intOf i).toNat)
  case atStart => exact ⟨0, Nat.zero_le _, rfl, by omega, Lib.hid ⟨Below.refl _ _, World.ownsRow_nil _ _ _ _⟩⟩
  case round =>
    obtain ⟨k, hk, rfl, hsz, HI⟩ := hrel
    by_cases hlt : k < n
    · have hlti : (k : Int) < (n : Int) := by omega
      obtain ⟨b, off, rfl, hbb, c0, c1⟩ := (HA1.out.fr (fr_below (M := fun _ => False) (by rw [hS]; exact HI.out.1)) (fun _ _ _ _ => id)) k hlt
      have HSn := Lib.hid (sdL_succ sd k)
      generalize hg k = hk' at *
      obtain ⟨Z, hZ⟩ : ∃ Z, wr.alloc (.cells #[.int .i64 hk', .bool (sd k)] 53) = Z := ⟨_, rfl⟩
      have FZ : Fr (fun _ => False) wr Z := by rw [← hZ]; exact (Fr.refl wr).alloc _
      have kx0 : Z.cell? ⟨wr.heap.size, 0, none⟩ = some (.int .i64 hk') := by rw [← hZ]; simp [go_sem]
      have kx1 : Z.cell? ⟨wr.heap.size, 1, none⟩ = some (.bool (sd k)) := by rw [← hZ]; simp [go_sem]
      have HZ : Hid (Below S x1.w Z ∧ Z.ownsRow S 3 1 u4 (sdL sd k).length (nvs (sdL sd k))) := Lib.hid ⟨HI.out.1.trans (FZ.below hsz (fun _ _ h => h)), ownsL_fr HI.out.2 FZ (fun _ _ h => h)⟩
      have hz3 : S ≤ Z.heap.size := by have := FZ.size; omega
      have hlen := sdL_len sd k
      clear FZ HI
      cases hsd : sd k
      · rw [hsd] at hZ kx1 HSn c1
        clear hsd
        simp only [Bool.false_eq_true, if_false, List.append_nil] at HSn
        subst hZ
        clear kx0 kx1
        go_wp2
        go_roundw
        case rel => exact ⟨k + 1, by omega, by go_num, hz3, by rw [HSn.out]; exact HZ⟩
        case measure => simp [intOf]; omega
      · rw [hsd] at hZ kx1 HSn c1
        clear hsd
        simp only [if_true] at HSn
        go_wp2_with (at_builtin; go_loud (refine wpList_append_own _ rfl _ _ 25 rfl S 3 i0 (.int .i64 0) 1 8 Try.underlying25 hi hz0 hz1 hz2 rfl (by decide) _ _ _ rfl (HZ.out.2.alloc _) ⟨Z.heap.size, 0, none⟩ 1 1 [.int .i64 (k : Nat)] rfl rfl (World.news_of_block (cs := #[.int .i64 (k : Nat)]) (t := 3) (fr := (0, 0)) (heap_alloc_new Z _)) (by simp [Value.oneCell']) (by unfold maxLen; omega) (by omega) (by simp; omega) ?_; intro v' w4 hown' hgrow _; have F4 : Fr (fun g => S ≤ g) Z w4 := ((Fr.refl Z).alloc _).grown hgrow (fun k e => .inl (HZ.out.2.lt k e).1); have H4 : Hid (Below S x1.w w4 ∧ w4.ownsRow S 3 1 v' (sdL sd (k + 1)).length (nvs (sdL sd (k + 1)))) := Lib.hid ⟨HZ.out.1.trans (F4.below hz3 (fun i hi h => absurd h (by omega))), by rw [HSn.out, List.length_append, show nvs (sdL sd k ++ [k]) = nvs (sdL sd k) ++ [.int .i64 (k : Nat)] from by simp [nvs]]; exact hown'⟩; have hs4 : S ≤ w4.heap.size := (by have := F4.size; omega); clear hown' hgrow F4))
        go_roundw
        case rel => exact ⟨k + 1, by omega, by go_num, hs4, H4⟩
        case measure => simp [intOf]; omega
    · obtain rfl : k = n := by omega
      have HB : Hid (Below w.heap.size w wr) := Lib.hid (HB1.out.trans (HI.out.1.mono (by omega)))
      have HN := Lib.hid (nat_own HI.out.2)
      clear HI
      go_wp2
      go_returns
      exact ⟨⟨_, rfl, HN.out⟩, HB.out⟩
set_option maxRecDepth 100000 in
set_option maxHeartbeats 1000000 in
theorem rSound_ok (a : Option Addr) (n cap : Nat) (hg : Nat → Int) (sd : Nat → Bool) (w : World) (hA : JtAt w a n hg sd) (hn : n ≤ 9223372036854775807) (hv : VjP n hg) :
    Calls Try.prog 13 #[.slice a n cap] w fun e w' => (∃ v, e = .returned (.tuple #[v, .int .i64 0]) ∧ NAt w' v (sdL sd n)) ∧ Below w.heap.size w w' := by
  obtain ⟨i0, hi, hz0, hz1, hz2⟩ := info_parts intInfo3
  have HV := Lib.hid (fun W (hW : Below w.heap.size w W) => rvalidJoints_any a n cap hg sd W (hA.on hW) hn)
  rw [decide_eq_true hv] at HV
  have hnI : (n : Int) ≤ 200 := by have := hv.1; omega
  have HA := Lib.hid hA
  clear hA
  go_enter Try.func13, Try.ntmps13
  go_wp2_with fail
  refine calls_after (HV.out _ (by (repeat' (first | (with_reducible exact Below.refl _ _) | (with_reducible assumption) | (with_reducible refine Below.alloc ?_ ?_ _) | (with_reducible refine Below.drew ?_) | (with_reducible refine below_drewN ?_ _) | (with_reducible refine Below.setCell ?_ ?_ _) | (with_reducible refine below_after ?_ ?_ _) | (with_reducible refine below_set ?_) | (with_reducible refine After.size_le _ ?_) | (with_reducible refine size_alloc_le ?_) | (with_reducible refine size_set_le ?_) | (with_reducible refine size_drewN_le ?_) | go_size)))) ?_
  intro x1
  have HB1 : Hid (Below w.heap.size w x1.w) := Lib.hid (by (repeat' (first | (with_reducible exact Below.refl _ _) | (with_reducible assumption) | (with_reducible refine Below.alloc ?_ ?_ _) | (with_reducible refine Below.drew ?_) | (with_reducible refine below_drewN ?_ _) | (with_reducible refine Below.setCell ?_ ?_ _) | (with_reducible refine below_after ?_ ?_ _) | (with_reducible refine below_set ?_) | (with_reducible refine After.size_le _ ?_) | (with_reducible refine size_alloc_le ?_) | (with_reducible refine size_set_le ?_) | (with_reducible refine size_drewN_le ?_) | go_size)))
  have hs1 := HB1.out.size
  have HA1 := Lib.hid (HA.out.on HB1.out)
  obtain ⟨S, hS⟩ : ∃ S, x1.w.heap.size = S := ⟨_, rfl⟩
  go_wp2
  go_loopw [4, 5] (fun v i W => ∃ k : Nat, k ≤ n ∧ i = .int .i64 k ∧ S ≤ W.heap.size ∧ Hid (Below S x1.w W ∧ W.ownsRow S 3 1 v (sdL sd k).length (nvs (sdL sd k)))) (fun _ i _ => n - (intOf i).toNat)
  case atStart => exact ⟨0, Nat.zero_le _, rfl, by omega, Lib.hid ⟨Below.refl _ _, World.ownsRow_nil _ _ _ _⟩⟩
  case round =>
    obtain ⟨k, hk, rfl, hsz, HI⟩ := hrel
    by_cases hlt : k < n
    · have hlti : (k : Int) < (n : Int) := by omega
      obtain ⟨b, off, rfl, hbb, c0, c1⟩ := (HA1.out.fr (fr_below (M := fun _ => False) (by rw [hS]; exact HI.out.1)) (fun _ _ _ _ => id)) k hlt
      have HSn := Lib.hid (sdL_succ sd k)
      generalize hg k = hk' at *
      have hlen := sdL_len sd k
      cases hsd : sd k
      · rw [hsd] at HSn c1
        clear hsd
        simp only [Bool.false_eq_true, if_false, List.append_nil] at HSn
        go_wp2
        go_roundw
        case rel => exact ⟨k + 1, by omega, by go_num, hsz, by rw [HSn.out]; exact HI⟩
        case measure => simp [intOf]; omega
      · rw [hsd] at HSn c1
        clear hsd
        simp only [if_true] at HSn
        go_wp2_with (at_builtin; go_loud (refine wpList_append_own _ rfl _ _ 25 rfl S 3 i0 (.int .i64 0) 1 8 Try.underlying25 hi hz0 hz1 hz2 rfl (by decide) _ _ _ rfl (HI.out.2.alloc _) ⟨wr.heap.size, 0, none⟩ 1 1 [.int .i64 (k : Nat)] rfl rfl (World.news_of_block (cs := #[.int .i64 (k : Nat)]) (t := 3) (fr := (0, 0)) (heap_alloc_new wr _)) (by simp [Value.oneCell']) (by unfold maxLen; omega) (by omega) (by simp; omega) ?_; intro v' w4 hown' hgrow _; have F4 : Fr (fun g => S ≤ g) wr w4 := ((Fr.refl wr).alloc _).grown hgrow (fun k e => .inl (HI.out.2.lt k e).1); have H4 : Hid (Below S x1.w w4 ∧ w4.ownsRow S 3 1 v' (sdL sd (k + 1)).length (nvs (sdL sd (k + 1)))) := Lib.hid ⟨HI.out.1.trans (F4.below hsz (fun i hi h => absurd h (by omega))), by rw [HSn.out, List.length_append, show nvs (sdL sd k ++ [k]) = nvs (sdL sd k) ++ [.int .i64 (k : Nat)] from by simp [nvs]]; exact hown'⟩; have hs4 : S ≤ w4.heap.size := (by have := F4.size; omega); clear hown' hgrow F4))
        go_roundw
        case rel => exact ⟨k + 1, by omega, by go_num, hs4, H4⟩
        case measure => simp [intOf]; omega
    · obtain rfl : k = n := by omega
      have HB : Hid (Below w.heap.size w wr) := Lib.hid (HB1.out.trans (HI.out.1.mono (by omega)))
      have HN := Lib.hid (nat_own HI.out.2)
      clear HI
      go_wp2
      go_returns
      exact ⟨⟨_, rfl, HN.out⟩, HB.out⟩
end Go.Proofs.Ytbjdojcenflliaa
