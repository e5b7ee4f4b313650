/- Joined in both programs. -/
import Derived.Test.YtfmoedlnjlkiiaaDoorWdp
import Derived.Deep.AppendLies
import Derived.OwnWalk
namespace Go.Proofs.YtfmoedlnjlkiiaaDoor
open Go.RowKit

/-- A row of numbers. -/
def rxs (h : Nat → Int) (k : Nat) : List Value := (List.range k).map fun i => .int .i64 (h i)
theorem rxs_succ (h : Nat → Int) (k : Nat) : rxs h (k + 1) = rxs h k ++ [.int .i64 (h k)] := by unfold rxs; rw [List.range_succ, List.map_append]; rfl
theorem rxs_len (h : Nat → Int) (k : Nat) : (rxs h k).length = k := by simp [rxs]
theorem rxs_get {h : Nat → Int} {k i : Nat} (hi : i < k) : (rxs h k)[i]? = some (.int .i64 (h i)) := by
  unfold rxs
  rw [List.getElem?_map, List.getElem?_range hi]; rfl
/-- A row whose first numbers are set. -/
def ixs (h : Nat → Int) (n k : Nat) : List Value := rxs (fun i => if i < k then h i else 0) n
theorem ixs_get {h : Nat → Int} {n k i : Nat} (hi : i < n) : (ixs h n k)[i]? = some (.int .i64 (if i < k then h i else 0)) := rxs_get hi
theorem ixs_set {h : Nat → Int} {n k : Nat} (hk : k < n) : (ixs h n k).set k (.int .i64 (h k)) = ixs h n (k + 1) := by
  apply List.ext_getElem?
  intro i
  rw [List.getElem?_set]
  by_cases hi : i < n
  · rw [ixs_get hi, ixs_get hi]
    by_cases e : k = i
    · subst e
      rw [if_pos rfl, if_pos (by unfold ixs; rw [rxs_len]; exact hk), if_pos (by omega)]
    · rw [if_neg e]
      by_cases h1 : i < k
      · rw [if_pos h1, if_pos (by omega)]
      · rw [if_neg h1, if_neg (by omega)]
  · rw [List.getElem?_eq_none (by unfold ixs; rw [rxs_len]; omega : (ixs h n k).length ≤ i), List.getElem?_eq_none (by unfold ixs; rw [rxs_len]; omega), if_neg (by omega)]
theorem ixs_full (h : Nat → Int) (n : Nat) : ixs h n n = rxs h n := by
  unfold ixs rxs
  refine List.map_congr_left fun i hi => ?_
  simp only [if_pos (List.mem_range.1 hi)]
theorem made_ints (h : Nat → Int) (n : Nat) : (madeCells #[.int .i64 0] (n * 1)).toList = ixs h n 0 := by
  apply List.ext_getElem?
  intro i
  unfold madeCells ixs rxs
  simp only [Array.toList_map, Array.toList_range, List.getElem?_map]
  by_cases hi : i < n
  · rw [List.getElem?_range (by omega), List.getElem?_range hi]
    simp [Nat.mod_one]
  · rw [List.getElem?_eq_none (by simp; omega), List.getElem?_eq_none (by simp; omega)]
    rfl
theorem intInfow : (Tryd.prog.info? 3).map (fun i => (i.zero, i.size, i.bytes)) = some (some (.int .i64 0), 1, 8) := by kernel_rfl
/-- A slice of numbers of the call's own. -/
def IRow (W : World) (B : Nat) (v : Value) (n : Nat) (h : Nat → Int) : Prop := W.ownsRow B 3 1 v n (rxs h n)
/-- The greater one of two gusts; what Joined answers. -/
def jnF (f g : Nat → Int) (k : Nat) : Int := if f k < g k then g k else f k
def jnE (n : Nat) (f : Nat → Int) (m : Nat) (g : Nat → Int) : Int := if decide (GoodG n f) && decide (GoodG m g) then (if n = m then 0 else 9) else 1
def jnL (n : Nat) (f : Nat → Int) (m : Nat) (g : Nat → Int) : Nat := if jnE n f m g = 0 then n else 0
section
attribute [local go_sem] After.cell After.frozen After.lt After.le After.ne After.ne' After.set_eq After.size_set After.lt_add
set_option maxRecDepth 100000 in
set_option maxHeartbeats 2000000 in
theorem joined_say (a : Option Addr) (n cap : Nat) (f : Nat → Int) (a' : Option Addr) (m cap' : Nat) (g : Nat → Int) (w : World) (hA : IAt w a n f) (hA' : IAt w a' m g) :
    Calls Tryd.prog 35 #[.slice a n cap, .slice a' m cap'] w fun e w' => (∃ v, e = .returned (.tuple #[v, .int .i64 (jnE n f m g)]) ∧ IRow w' w.heap.size v (jnL n f m g) (jnF f g)) ∧ Below w.heap.size w w' := by
  have HV := Lib.hid (validGusts_any a n cap f w hA)
  have HA := Lib.hid hA
  have HA' := Lib.hid hA'
  have HV' := Lib.hid (fun W (hW : Below w.heap.size w W) => validGusts_any a' m cap' g W (hA'.on hW))
  unfold IRow
  cases hk : decide (GoodG n f)
  · have e1 : jnE n f m g = 1 := by unfold jnE; rw [hk]; rfl
    have e2 : jnL n f m g = 0 := by unfold jnL; rw [e1]; rfl
    rw [hk] at HV
    rw [e1, e2]
    go_enter Tryd.func35, Tryd.ntmps35
    go_wp2_with fail
    refine calls_after HV.out ?_
    intro x1
    go_wp2
    go_returns
    exact ⟨⟨_, rfl, World.ownsRow_nil _ _ _ _⟩, by (repeat' (first | (with_reducible exact Below.refl _ _) | (with_reducible assumption) | (with_reducible refine Below.alloc ?_ ?_ _) | (with_reducible refine Below.drew ?_) | (with_reducible refine below_drewN ?_ _) | (with_reducible refine Below.setCell ?_ ?_ _) | (with_reducible refine below_after ?_ ?_ _) | (with_reducible refine below_set ?_) | (with_reducible refine After.size_le _ ?_) | (with_reducible refine size_alloc_le ?_) | (with_reducible refine size_set_le ?_) | (with_reducible refine size_drewN_le ?_) | go_size))⟩
  · rw [hk] at HV
    have hG := of_decide_eq_true hk
    have hn := hG.1
    have hnI : (n : Int) ≤ 2000 := by omega
    cases hk' : decide (GoodG m g)
    · have e1 : jnE n f m g = 1 := by unfold jnE; rw [hk, hk']; rfl
      have e2 : jnL n f m g = 0 := by unfold jnL; rw [e1]; rfl
      rw [hk'] at HV'
      rw [e1, e2]
      go_enter Tryd.func35, Tryd.ntmps35
      go_wp2_with fail
      refine calls_after HV.out ?_
      intro x1
      go_wp2_with fail
      refine calls_after2 (HV'.out _ x1.out) ?_
      intro x2
      go_wp2
      go_returns
      exact ⟨⟨_, rfl, World.ownsRow_nil _ _ _ _⟩, by (repeat' (first | (with_reducible exact Below.refl _ _) | (with_reducible assumption) | (with_reducible refine Below.alloc ?_ ?_ _) | (with_reducible refine Below.drew ?_) | (with_reducible refine below_drewN ?_ _) | (with_reducible refine Below.setCell ?_ ?_ _) | (with_reducible refine below_after ?_ ?_ _) | (with_reducible refine below_set ?_) | (with_reducible refine After.size_le _ ?_) | (with_reducible refine size_alloc_le ?_) | (with_reducible refine size_set_le ?_) | (with_reducible refine size_drewN_le ?_) | go_size))⟩
    · rw [hk'] at HV'
      by_cases hnm : n = m
      · subst hnm
        have e1 : jnE n f n g = 0 := by unfold jnE; rw [hk, hk']; simp
        have e2 : jnL n f n g = n := by unfold jnL; rw [e1]; rfl
        rw [e1, e2]
        obtain ⟨i0, hi, hz0, hz1, hz2⟩ := info_parts intInfow
        have hmk := fun w' => run_make (P := Tryd.prog) w' 24 3 i0 _ Tryd.underlying24 hi hz0 .i64 .i64 (n : Int) (n : Int) (by omega) (by omega) (by rw [hz2]; omega) (by omega)
        rw [hz1] at hmk
        simp only [Int.toNat_natCast] at hmk
        go_enter Tryd.func35, Tryd.ntmps35
        go_wp2_with fail
        refine calls_after HV.out ?_
        intro x1
        go_wp2_with fail
        refine calls_after2 (HV'.out _ x1.out) ?_
        intro x2
        have hB1 := x2.out
        have hs1 := hB1.size
        go_wp2
        clear hmk
        have hO : (x2.w.alloc (.cells (madeCells #[.int .i64 0] (n * 1)) 3)).ownsRow w.heap.size 3 1 (.slice (some ⟨x2.w.heap.size, 0, none⟩) n n) n (ixs (jnF f g) n 0) := by
          have := World.ownsRow_lit (base := w.heap.size) (size := 1) (e := 3) x2.w (madeCells #[.int .i64 0] (n * 1)) n hs1 (by unfold maxLen; omega) (by simp [madeCells])
          rw [made_ints (jnF f g)] at this
          exact this
        rw [Nat.mul_one] at hO
        have HB0 := Lib.hid (hB1.alloc hs1 (.cells (madeCells #[.int .i64 0] n) 3))
        generalize x2.w.heap.size = G at *
        generalize x2.w.alloc (.cells (madeCells #[.int .i64 0] n) 3) = W0 at *
        go_loopw [7, 28] (fun _ i wr => ∃ k : Nat, k ≤ n ∧ i = .int .i64 k ∧ wr.ownsRow w.heap.size 3 1 (.slice (some ⟨G, 0, none⟩) n n) n (ixs (jnF f g) n k) ∧ Hid (Below w.heap.size w wr)) (fun _ i _ => n - (intOf i).toNat)
        case atStart => exact ⟨0, by omega, rfl, hO, HB0⟩
        case round =>
          obtain ⟨k, hkk, rfl, hO, HB⟩ := hrel
          by_cases hlt : k < n
          · have hlti : (k : Int) < (n : Int) := by omega
            obtain ⟨b, off, rfl, hb, hc⟩ := HA.out k hlt
            obtain ⟨b', off', rfl, hb', hc'⟩ := HA'.out k hlt
            have hcr := (HB.out.cell (p := ⟨b, off + k, none⟩) hb).trans hc
            have hcr' := (HB.out.cell (p := ⟨b', off' + k, none⟩) hb').trans hc'
            have hset := Lib.hid (ixs_set (h := jnF f g) hlt)
            have hj := Lib.hid (show jnF f g k = if f k < g k then g k else f k from rfl)
            have e0 := hO.cellAt k (by omega)
            rw [ixs_get hlt, if_neg (Nat.lt_irrefl k)] at e0
            have f0 := hO.frozenAt k
            have HO := Lib.hid hO
            clear hO
            generalize jnF f g k = z at *
            generalize f k = x at *
            generalize g k = y at *
            have hz : Hid ((if x < y then y else x) = z) := Lib.hid hj.out.symm
            by_cases hxy : x < y
            · rw [if_pos hxy] at hz
              obtain rfl := hz.out
              clear hz hj
              go_wp2_with fail
              go_region
              all_goals
                go_wp2
                go_roundw
                case rel =>
                  have hst := (HO.out.stored k (.int .i64 y)).1.drew
                  rw [hset.out] at hst
                  exact ⟨k + 1, by omega, by go_num, by simpa using hst, Lib.hid ((HB.out.setCell (by have := (HO.out.lt G rfl).1; simpa using this) _).drew)⟩
                case measure => simp [intOf]; omega
            · rw [if_neg hxy] at hz
              obtain rfl := hz.out
              clear hz hj
              go_wp2_with fail
              go_region
              all_goals
                go_wp2
                go_roundw
                case rel =>
                  have hst := (HO.out.stored k (.int .i64 x)).1.drew
                  rw [hset.out] at hst
                  exact ⟨k + 1, by omega, by go_num, by simpa using hst, Lib.hid ((HB.out.setCell (by have := (HO.out.lt G rfl).1; simpa using this) _).drew)⟩
                case measure => simp [intOf]; omega
          · obtain rfl : k = n := by omega
            have HO := Lib.hid hO
            clear hO
            go_wp2
            go_returns
            exact ⟨⟨_, rfl, by rw [← ixs_full]; exact HO.out⟩, HB.out⟩
      · have e1 : jnE n f m g = 9 := by unfold jnE; rw [hk, hk']; simp [hnm]
        have e2 : jnL n f m g = 0 := by unfold jnL; rw [e1]; rfl
        rw [e1, e2]
        have hne : ¬ (n : Int) = (m : Int) := by omega
        go_enter Tryd.func35, Tryd.ntmps35
        go_wp2_with fail
        refine calls_after HV.out ?_
        intro x1
        go_wp2_with fail
        refine calls_after2 (HV'.out _ x1.out) ?_
        intro x2
        go_wp2
        go_returns
        exact ⟨⟨_, rfl, World.ownsRow_nil _ _ _ _⟩, by (repeat' (first | (with_reducible exact Below.refl _ _) | (with_reducible assumption) | (with_reducible refine Below.alloc ?_ ?_ _) | (with_reducible refine Below.drew ?_) | (with_reducible refine below_drewN ?_ _) | (with_reducible refine Below.setCell ?_ ?_ _) | (with_reducible refine below_after ?_ ?_ _) | (with_reducible refine below_set ?_) | (with_reducible refine After.size_le _ ?_) | (with_reducible refine size_alloc_le ?_) | (with_reducible refine size_set_le ?_) | (with_reducible refine size_drewN_le ?_) | go_size))⟩
set_option maxRecDepth 100000 in
set_option maxHeartbeats 2000000 in
theorem rjoined_say (a : Option Addr) (n cap : Nat) (f : Nat → Int) (a' : Option Addr) (m cap' : Nat) (g : Nat → Int) (w : World) (hA : IAt w a n f) (hA' : IAt w a' m g) (hcap : n ≤ 9223372036854775807) (hcap' : m ≤ 9223372036854775807) :
    Calls Tryd.prog 36 #[.slice a n cap, .slice a' m cap'] w fun e w' => (∃ v, e = .returned (.tuple #[v, .int .i64 (jnE n f m g)]) ∧ IRow w' w.heap.size v (jnL n f m g) (jnF f g)) ∧ Below w.heap.size w w' := by
  have HV := Lib.hid (rvalidGusts_any a n cap f w hA hcap)
  have HA := Lib.hid hA
  have HA' := Lib.hid hA'
  have HV' := Lib.hid (fun W (hW : Below w.heap.size w W) => rvalidGusts_any a' m cap' g W (hA'.on hW) hcap')
  unfold IRow
  cases hk : decide (GoodG n f)
  · have e1 : jnE n f m g = 1 := by unfold jnE; rw [hk]; rfl
    have e2 : jnL n f m g = 0 := by unfold jnL; rw [e1]; rfl
    rw [hk] at HV
    rw [e1, e2]
    go_enter Tryd.func36, Tryd.ntmps36
    go_wp2_with fail
    refine calls_after HV.out ?_
    intro x1
    go_wp2
    go_returns
    exact ⟨⟨_, rfl, World.ownsRow_nil _ _ _ _⟩, by (repeat' (first | (with_reducible exact Below.refl _ _) | (with_reducible assumption) | (with_reducible refine Below.alloc ?_ ?_ _) | (with_reducible refine Below.drew ?_) | (with_reducible refine below_drewN ?_ _) | (with_reducible refine Below.setCell ?_ ?_ _) | (with_reducible refine below_after ?_ ?_ _) | (with_reducible refine below_set ?_) | (with_reducible refine After.size_le _ ?_) | (with_reducible refine size_alloc_le ?_) | (with_reducible refine size_set_le ?_) | (with_reducible refine size_drewN_le ?_) | go_size))⟩
  · rw [hk] at HV
    have hG := of_decide_eq_true hk
    have hn := hG.1
    have hnI : (n : Int) ≤ 2000 := by omega
    cases hk' : decide (GoodG m g)
    · have e1 : jnE n f m g = 1 := by unfold jnE; rw [hk, hk']; rfl
      have e2 : jnL n f m g = 0 := by unfold jnL; rw [e1]; rfl
      rw [hk'] at HV'
      rw [e1, e2]
      go_enter Tryd.func36, Tryd.ntmps36
      go_wp2_with fail
      refine calls_after HV.out ?_
      intro x1
      go_wp2_with fail
      refine calls_after2 (HV'.out _ x1.out) ?_
      intro x2
      go_wp2
      go_returns
      exact ⟨⟨_, rfl, World.ownsRow_nil _ _ _ _⟩, by (repeat' (first | (with_reducible exact Below.refl _ _) | (with_reducible assumption) | (with_reducible refine Below.alloc ?_ ?_ _) | (with_reducible refine Below.drew ?_) | (with_reducible refine below_drewN ?_ _) | (with_reducible refine Below.setCell ?_ ?_ _) | (with_reducible refine below_after ?_ ?_ _) | (with_reducible refine below_set ?_) | (with_reducible refine After.size_le _ ?_) | (with_reducible refine size_alloc_le ?_) | (with_reducible refine size_set_le ?_) | (with_reducible refine size_drewN_le ?_) | go_size))⟩
    · rw [hk'] at HV'
      by_cases hnm : n = m
      · subst hnm
        have e1 : jnE n f n g = 0 := by unfold jnE; rw [hk, hk']; simp
        have e2 : jnL n f n g = n := by unfold jnL; rw [e1]; rfl
        rw [e1, e2]
        obtain ⟨i0, hi, hz0, hz1, hz2⟩ := info_parts intInfow
        go_enter Tryd.func36, Tryd.ntmps36
        go_wp2_with fail
        refine calls_after HV.out ?_
        intro x1
        go_wp2_with fail
        refine calls_after2 (HV'.out _ x1.out) ?_
        intro x2
        have HB0 := Lib.hid x2.out
        generalize x2.w = W0 at *
        go_wp2
        go_loopw [6, 7, 8] (fun v i _ wr => ∃ k : Nat, k ≤ n ∧ i = .int .i64 k ∧ wr.ownsRow w.heap.size 3 1 v k (rxs (jnF f g) k) ∧ Hid (Below w.heap.size w wr)) (fun _ i _ _ => n - (intOf i).toNat)
        case atStart => exact ⟨0, by omega, rfl, World.ownsRow_nil _ _ _ _, HB0⟩
        case round =>
          obtain ⟨k, hkk, rfl, hO, HB⟩ := hrel
          by_cases hlt : k < n
          · have hlti : (k : Int) < (n : Int) := by omega
            obtain ⟨b, off, rfl, hb, hc⟩ := HA.out k hlt
            obtain ⟨b', off', rfl, hb', hc'⟩ := HA'.out k hlt
            have hcr := (HB.out.cell (p := ⟨b, off + k, none⟩) hb).trans hc
            have hcr' := (HB.out.cell (p := ⟨b', off' + k, none⟩) hb').trans hc'
            have hset := Lib.hid (rxs_succ (jnF f g) k)
            have hj := Lib.hid (show jnF f g k = if f k < g k then g k else f k from rfl)
            have hsB := HB.out.size
            obtain ⟨a0, cap0, rfl⟩ := ownsR_shape hO
            have HO := Lib.hid hO
            clear hO
            generalize jnF f g k = z at *
            generalize f k = x at *
            generalize g k = y at *
            have hz : Hid ((if x < y then y else x) = z) := Lib.hid hj.out.symm
            by_cases hxy : x < y
            · rw [if_pos hxy] at hz
              obtain rfl := hz.out
              clear hz hj
              go_wp2_with (at_builtin; refine wpList_append_own _ rfl _ _ 24 rfl w.heap.size 3 i0 (.int .i64 0) 1 8 Tryd.underlying24 hi hz0 hz1 hz2 rfl (by decide) _ _ _ rfl (HO.out.alloc _) ⟨wr.heap.size, 0, none⟩ 1 1 [.int .i64 y] rfl rfl (World.news_of_block (cs := #[.int .i64 y]) (t := 3) (fr := (0, 0)) (heap_alloc_new wr _)) (by simp [Value.oneCell']) (by unfold maxLen; omega) (by omega) (by simp; omega) ?_; intro v' w1 hown' hgrow _)
              go_roundw
              case rel => exact ⟨k + 1, by omega, by go_num, by rw [hset.out]; exact hown', Lib.hid ((HB.out.alloc hsB _).grown hgrow (by simp; omega) (fun j e => (HO.out.lt j e).1))⟩
              case measure => simp [intOf]; omega
            · rw [if_neg hxy] at hz
              obtain rfl := hz.out
              clear hz hj
              go_wp2_with (at_builtin; refine wpList_append_own _ rfl _ _ 24 rfl w.heap.size 3 i0 (.int .i64 0) 1 8 Tryd.underlying24 hi hz0 hz1 hz2 rfl (by decide) _ _ _ rfl (HO.out.alloc _) ⟨wr.heap.size, 0, none⟩ 1 1 [.int .i64 x] rfl rfl (World.news_of_block (cs := #[.int .i64 x]) (t := 3) (fr := (0, 0)) (heap_alloc_new wr _)) (by simp [Value.oneCell']) (by unfold maxLen; omega) (by omega) (by simp; omega) ?_; intro v' w1 hown' hgrow _)
              go_roundw
              case rel => exact ⟨k + 1, by omega, by go_num, by rw [hset.out]; exact hown', Lib.hid ((HB.out.alloc hsB _).grown hgrow (by simp; omega) (fun j e => (HO.out.lt j e).1))⟩
              case measure => simp [intOf]; omega
          · obtain rfl : k = n := by omega
            obtain ⟨a0, cap0, rfl⟩ := ownsR_shape hO
            have HO := Lib.hid hO
            clear hO
            go_wp2
            go_returns
            exact ⟨⟨_, rfl, HO.out⟩, HB.out⟩
      · have e1 : jnE n f m g = 9 := by unfold jnE; rw [hk, hk']; simp [hnm]
        have e2 : jnL n f m g = 0 := by unfold jnL; rw [e1]; rfl
        rw [e1, e2]
        have hne : ¬ (n : Int) = (m : Int) := by omega
        go_enter Tryd.func36, Tryd.ntmps36
        go_wp2_with fail
        refine calls_after HV.out ?_
        intro x1
        go_wp2_with fail
        refine calls_after2 (HV'.out _ x1.out) ?_
        intro x2
        go_wp2
        go_returns
        exact ⟨⟨_, rfl, World.ownsRow_nil _ _ _ _⟩, by (repeat' (first | (with_reducible exact Below.refl _ _) | (with_reducible assumption) | (with_reducible refine Below.alloc ?_ ?_ _) | (with_reducible refine Below.drew ?_) | (with_reducible refine below_drewN ?_ _) | (with_reducible refine Below.setCell ?_ ?_ _) | (with_reducible refine below_after ?_ ?_ _) | (with_reducible refine below_set ?_) | (with_reducible refine After.size_le _ ?_) | (with_reducible refine size_alloc_le ?_) | (with_reducible refine size_set_le ?_) | (with_reducible refine size_drewN_le ?_) | go_size))⟩
end
end Go.Proofs.YtfmoedlnjlkiiaaDoor
