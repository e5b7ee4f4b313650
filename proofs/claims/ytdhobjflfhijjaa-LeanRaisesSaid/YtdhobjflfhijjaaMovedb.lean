/- Moved, in both programs. -/
import Derived.Test.YtdhobjflfhijjaaMoved
namespace Go.Proofs.Ytdhobjflfhijjaa
open Go.RowKit
attribute [local go_sem] After.cell After.frozen After.lt After.le After.ne After.ne' After.set_eq After.size_set After.lt_add

def ByOk (y : Int) : Prop := 0 ≤ y ∧ y ≤ 10000
instance (y : Int) : Decidable (ByOk y) := by unfold ByOk; infer_instance
theorem owns_below {B : Nat} {e : TypeId} {k : Nat} {v : Value} {n : Nat} {xs : List Value} {w w' : World} (h : w.ownsRow B e k v n xs) (hb : Below w.heap.size w w') : w'.ownsRow B e k v n xs := by
  obtain ⟨h1, h2 | ⟨g, cap, cur, a1, a2, a3, a4⟩⟩ := h
  · exact ⟨h1, .inl h2⟩
  · exact ⟨h1, .inr ⟨g, cap, cur, a1, a2, (hb.block g (Array.getElem?_eq_some_iff.1 a3).1).trans a3, a4⟩⟩
/-- Whether a mark has moved. -/
def mvB (f g : Nat → Nat → Int) (y : Int) (k : Nat) : Bool := decide (y < (f k 1 - g k 1).natAbs ∨ y < (f k 2 - g k 2).natAbs)
def mvL (f g : Nat → Nat → Int) (y : Int) (n : Nat) : List Nat := (List.range n).filter (mvB f g y)
theorem mvL_succ (f g : Nat → Nat → Int) (y : Int) (k : Nat) : mvL f g y (k + 1) = mvL f g y k ++ if mvB f g y k then [k] else [] := by
  unfold mvL
  rw [List.range_succ, List.filter_append]
  cases h : mvB f g y k <;> simp [h]
theorem mvL_le (f g : Nat → Nat → Int) (y : Int) (n : Nat) : (mvL f g y n).length ≤ n := by
  unfold mvL
  have := List.length_filter_le (mvB f g y) (List.range n)
  simpa using this
def ixC (l : List Nat) : List Value := l.map fun (i : Nat) => Value.int .i64 (i : Int)
theorem ixInfo : (Try.prog.info? 3).map (fun i => (i.zero, i.size, i.bytes)) = some (some (.int .i64 0), 1, 8) := by kernel_rfl


set_option maxRecDepth 100000 in
set_option maxHeartbeats 1000000 in
theorem moved_inv1 (va vb : Value) (y : Int) (w : World) (ha : MSay w va false) :
    Calls Try.prog 52 #[va, vb, .int .i64 y] w fun e w' => e = .returned (.tuple #[.slice none 0 0, .int .i64 1]) ∧ Below w.heap.size w w' := by
  have HA : Hid (∀ W, Below w.heap.size w W → _) := ha
  clear ha
  go_enter Try.func52, Try.ntmps52
  (go_wp2_with fail); refine calls_after (HA.out _ (by (repeat' (first | (with_reducible exact Below.refl _ _) | (with_reducible assumption) | (with_reducible refine Below.alloc ?_ ?_ _) | (with_reducible refine Below.drew ?_) | (with_reducible refine below_drewN ?_ _) | (with_reducible refine Below.setCell ?_ ?_ _) | (with_reducible refine below_after ?_ ?_ _) | (with_reducible refine below_set ?_) | (with_reducible refine After.size_le _ ?_) | (with_reducible refine size_alloc_le ?_) | (with_reducible refine size_set_le ?_) | (with_reducible refine size_drewN_le ?_) | go_size)))) ?_; intro x1
  go_wp2
  go_returns
  exact ⟨rfl, by (repeat' (first | (with_reducible exact Below.refl _ _) | (with_reducible assumption) | (with_reducible refine Below.alloc ?_ ?_ _) | (with_reducible refine Below.drew ?_) | (with_reducible refine below_drewN ?_ _) | (with_reducible refine Below.setCell ?_ ?_ _) | (with_reducible refine below_after ?_ ?_ _) | (with_reducible refine below_set ?_) | (with_reducible refine After.size_le _ ?_) | (with_reducible refine size_alloc_le ?_) | (with_reducible refine size_set_le ?_) | (with_reducible refine size_drewN_le ?_) | go_size))⟩
set_option maxRecDepth 100000 in
set_option maxHeartbeats 1000000 in
theorem moved_inv2 (va vb : Value) (y : Int) (w : World) (ha : MSay w va true) (hb : MSay w vb false) :
    Calls Try.prog 52 #[va, vb, .int .i64 y] w fun e w' => e = .returned (.tuple #[.slice none 0 0, .int .i64 1]) ∧ Below w.heap.size w w' := by
  have HA : Hid (∀ W, Below w.heap.size w W → _) := ha
  have HB : Hid (∀ W, Below w.heap.size w W → _) := hb
  clear ha hb
  go_enter Try.func52, Try.ntmps52
  (go_wp2_with fail); refine calls_after (HA.out _ (by (repeat' (first | (with_reducible exact Below.refl _ _) | (with_reducible assumption) | (with_reducible refine Below.alloc ?_ ?_ _) | (with_reducible refine Below.drew ?_) | (with_reducible refine below_drewN ?_ _) | (with_reducible refine Below.setCell ?_ ?_ _) | (with_reducible refine below_after ?_ ?_ _) | (with_reducible refine below_set ?_) | (with_reducible refine After.size_le _ ?_) | (with_reducible refine size_alloc_le ?_) | (with_reducible refine size_set_le ?_) | (with_reducible refine size_drewN_le ?_) | go_size)))) ?_; intro x1
  (go_wp2_with fail); refine calls_after2 (HB.out _ (by (repeat' (first | (with_reducible exact Below.refl _ _) | (with_reducible assumption) | (with_reducible refine Below.alloc ?_ ?_ _) | (with_reducible refine Below.drew ?_) | (with_reducible refine below_drewN ?_ _) | (with_reducible refine Below.setCell ?_ ?_ _) | (with_reducible refine below_after ?_ ?_ _) | (with_reducible refine below_set ?_) | (with_reducible refine After.size_le _ ?_) | (with_reducible refine size_alloc_le ?_) | (with_reducible refine size_set_le ?_) | (with_reducible refine size_drewN_le ?_) | go_size)))) ?_; intro x2
  go_wp2
  go_returns
  exact ⟨rfl, by (repeat' (first | (with_reducible exact Below.refl _ _) | (with_reducible assumption) | (with_reducible refine Below.alloc ?_ ?_ _) | (with_reducible refine Below.drew ?_) | (with_reducible refine below_drewN ?_ _) | (with_reducible refine Below.setCell ?_ ?_ _) | (with_reducible refine below_after ?_ ?_ _) | (with_reducible refine below_set ?_) | (with_reducible refine After.size_le _ ?_) | (with_reducible refine size_alloc_le ?_) | (with_reducible refine size_set_le ?_) | (with_reducible refine size_drewN_le ?_) | go_size))⟩
set_option maxRecDepth 100000 in
set_option maxHeartbeats 1000000 in
theorem moved_by (va vb : Value) (y : Int) (w : World) (ha : MSay w va true) (hb : MSay w vb true) (hy : ¬ ByOk y) :
    Calls Try.prog 52 #[va, vb, .int .i64 y] w fun e w' => e = .returned (.tuple #[.slice none 0 0, .int .i64 7]) ∧ Below w.heap.size w w' := by
  have HA : Hid (∀ W, Below w.heap.size w W → _) := ha
  have HB : Hid (∀ W, Below w.heap.size w W → _) := hb
  clear ha hb
  unfold ByOk at hy
  by_cases h0 : y < 0
  · clear hy
    go_enter Try.func52, Try.ntmps52
    (go_wp2_with fail); refine calls_after (HA.out _ (by (repeat' (first | (with_reducible exact Below.refl _ _) | (with_reducible assumption) | (with_reducible refine Below.alloc ?_ ?_ _) | (with_reducible refine Below.drew ?_) | (with_reducible refine below_drewN ?_ _) | (with_reducible refine Below.setCell ?_ ?_ _) | (with_reducible refine below_after ?_ ?_ _) | (with_reducible refine below_set ?_) | (with_reducible refine After.size_le _ ?_) | (with_reducible refine size_alloc_le ?_) | (with_reducible refine size_set_le ?_) | (with_reducible refine size_drewN_le ?_) | go_size)))) ?_; intro x1
    (go_wp2_with fail); refine calls_after2 (HB.out _ (by (repeat' (first | (with_reducible exact Below.refl _ _) | (with_reducible assumption) | (with_reducible refine Below.alloc ?_ ?_ _) | (with_reducible refine Below.drew ?_) | (with_reducible refine below_drewN ?_ _) | (with_reducible refine Below.setCell ?_ ?_ _) | (with_reducible refine below_after ?_ ?_ _) | (with_reducible refine below_set ?_) | (with_reducible refine After.size_le _ ?_) | (with_reducible refine size_alloc_le ?_) | (with_reducible refine size_set_le ?_) | (with_reducible refine size_drewN_le ?_) | go_size)))) ?_; intro x2
    go_wp2
    go_returns
    exact ⟨rfl, by (repeat' (first | (with_reducible exact Below.refl _ _) | (with_reducible assumption) | (with_reducible refine Below.alloc ?_ ?_ _) | (with_reducible refine Below.drew ?_) | (with_reducible refine below_drewN ?_ _) | (with_reducible refine Below.setCell ?_ ?_ _) | (with_reducible refine below_after ?_ ?_ _) | (with_reducible refine below_set ?_) | (with_reducible refine After.size_le _ ?_) | (with_reducible refine size_alloc_le ?_) | (with_reducible refine size_set_le ?_) | (with_reducible refine size_drewN_le ?_) | go_size))⟩
  · have h1 : 0 ≤ y := by omega
    have h2 : decide (y ≤ 10000) = false := by simp; omega
    clear hy h0
    go_enter Try.func52, Try.ntmps52
    (go_wp2_with fail); refine calls_after (HA.out _ (by (repeat' (first | (with_reducible exact Below.refl _ _) | (with_reducible assumption) | (with_reducible refine Below.alloc ?_ ?_ _) | (with_reducible refine Below.drew ?_) | (with_reducible refine below_drewN ?_ _) | (with_reducible refine Below.setCell ?_ ?_ _) | (with_reducible refine below_after ?_ ?_ _) | (with_reducible refine below_set ?_) | (with_reducible refine After.size_le _ ?_) | (with_reducible refine size_alloc_le ?_) | (with_reducible refine size_set_le ?_) | (with_reducible refine size_drewN_le ?_) | go_size)))) ?_; intro x1
    (go_wp2_with fail); refine calls_after2 (HB.out _ (by (repeat' (first | (with_reducible exact Below.refl _ _) | (with_reducible assumption) | (with_reducible refine Below.alloc ?_ ?_ _) | (with_reducible refine Below.drew ?_) | (with_reducible refine below_drewN ?_ _) | (with_reducible refine Below.setCell ?_ ?_ _) | (with_reducible refine below_after ?_ ?_ _) | (with_reducible refine below_set ?_) | (with_reducible refine After.size_le _ ?_) | (with_reducible refine size_alloc_le ?_) | (with_reducible refine size_set_le ?_) | (with_reducible refine size_drewN_le ?_) | go_size)))) ?_; intro x2
    go_wp2
    go_returns
    exact ⟨rfl, by (repeat' (first | (with_reducible exact Below.refl _ _) | (with_reducible assumption) | (with_reducible refine Below.alloc ?_ ?_ _) | (with_reducible refine Below.drew ?_) | (with_reducible refine below_drewN ?_ _) | (with_reducible refine Below.setCell ?_ ?_ _) | (with_reducible refine below_after ?_ ?_ _) | (with_reducible refine below_set ?_) | (with_reducible refine After.size_le _ ?_) | (with_reducible refine size_alloc_le ?_) | (with_reducible refine size_set_le ?_) | (with_reducible refine size_drewN_le ?_) | go_size))⟩
set_option maxRecDepth 100000 in
set_option maxHeartbeats 1000000 in
theorem moved_size (aa ab : Option Addr) (na nb ca cb : Nat) (y : Int) (w : World) (ha : MSay w (.slice aa na ca) true) (hb : MSay w (.slice ab nb cb) true) (hy : ByOk y) (hn : na ≠ nb) :
    Calls Try.prog 52 #[.slice aa na ca, .slice ab nb cb, .int .i64 y] w fun e w' => e = .returned (.tuple #[.slice none 0 0, .int .i64 9]) ∧ Below w.heap.size w w' := by
  have HA : Hid (∀ W, Below w.heap.size w W → _) := ha
  have HB : Hid (∀ W, Below w.heap.size w W → _) := hb
  clear ha hb
  obtain ⟨y1, y2⟩ := hy
  have hn' : ((na : Int) != (nb : Int)) = true := by simp; omega
  go_enter Try.func52, Try.ntmps52
  (go_wp2_with fail); refine calls_after (HA.out _ (by (repeat' (first | (with_reducible exact Below.refl _ _) | (with_reducible assumption) | (with_reducible refine Below.alloc ?_ ?_ _) | (with_reducible refine Below.drew ?_) | (with_reducible refine below_drewN ?_ _) | (with_reducible refine Below.setCell ?_ ?_ _) | (with_reducible refine below_after ?_ ?_ _) | (with_reducible refine below_set ?_) | (with_reducible refine After.size_le _ ?_) | (with_reducible refine size_alloc_le ?_) | (with_reducible refine size_set_le ?_) | (with_reducible refine size_drewN_le ?_) | go_size)))) ?_; intro x1
  (go_wp2_with fail); refine calls_after2 (HB.out _ (by (repeat' (first | (with_reducible exact Below.refl _ _) | (with_reducible assumption) | (with_reducible refine Below.alloc ?_ ?_ _) | (with_reducible refine Below.drew ?_) | (with_reducible refine below_drewN ?_ _) | (with_reducible refine Below.setCell ?_ ?_ _) | (with_reducible refine below_after ?_ ?_ _) | (with_reducible refine below_set ?_) | (with_reducible refine After.size_le _ ?_) | (with_reducible refine size_alloc_le ?_) | (with_reducible refine size_set_le ?_) | (with_reducible refine size_drewN_le ?_) | go_size)))) ?_; intro x2
  go_wp2
  go_returns
  exact ⟨rfl, by (repeat' (first | (with_reducible exact Below.refl _ _) | (with_reducible assumption) | (with_reducible refine Below.alloc ?_ ?_ _) | (with_reducible refine Below.drew ?_) | (with_reducible refine below_drewN ?_ _) | (with_reducible refine Below.setCell ?_ ?_ _) | (with_reducible refine below_after ?_ ?_ _) | (with_reducible refine below_set ?_) | (with_reducible refine After.size_le _ ?_) | (with_reducible refine size_alloc_le ?_) | (with_reducible refine size_set_le ?_) | (with_reducible refine size_drewN_le ?_) | go_size))⟩

set_option maxRecDepth 1000000 in
set_option maxHeartbeats 2000000 in
theorem moved_ok (b off cap b' off' cap' n : Nat) (f g : Nat → Nat → Int) (y : Int) (w : World) (hb : b < w.heap.size) (hb' : b' < w.heap.size) (hn : n ≤ 40) (hc : MkCells w b off n f) (hc' : MkCells w b' off' n g)
    (hf : ∀ k, k < n → InMk (f k 0) (f k 1) (f k 2)) (hg : ∀ k, k < n → InMk (g k 0) (g k 1) (g k 2))
    (ha : MSay w (.slice (some ⟨b, off, none⟩) n cap) true) (hv : MSay w (.slice (some ⟨b', off', none⟩) n cap') true) (hy : ByOk y) (hE : hEq n f g) :
    Calls Try.prog 52 #[.slice (some ⟨b, off, none⟩) n cap, .slice (some ⟨b', off', none⟩) n cap', .int .i64 y] w fun e w' => ∃ v, e = .returned (.tuple #[v, .int .i64 0]) ∧ w'.ownsRow w.heap.size 3 1 v (mvL f g y n).length (ixC (mvL f g y n)) ∧ Below w.heap.size w w' := by
  have HA : Hid (∀ W, Below w.heap.size w W → _) := ha
  have HB : Hid (∀ W, Below w.heap.size w W → _) := hv
  have HE : Hid (∀ W, Below w.heap.size w W → _) := fun W hW => equalFunc_any b off cap b' off' cap' n f g W (Nat.lt_of_lt_of_le hb hW.size) (Nat.lt_of_lt_of_le hb' hW.size) (by omega) (hc.on hb hW) (hc'.on hb' hW)
  rw [decide_eq_true hE] at HE
  have HC := Lib.hid hc
  have HC' := Lib.hid hc'
  have HF := Lib.hid hf
  have HG := Lib.hid hg
  clear ha hv hE hc hc' hf hg
  obtain ⟨y1, y2⟩ := hy
  obtain ⟨i0, hi, hz0, hz1, hz2⟩ := info_parts ixInfo
  go_enter Try.func52, Try.ntmps52
  (go_wp2_with fail); refine calls_after (HA.out _ (by (repeat' (first | (with_reducible exact Below.refl _ _) | (with_reducible assumption) | (with_reducible refine Below.alloc ?_ ?_ _) | (with_reducible refine Below.drew ?_) | (with_reducible refine below_drewN ?_ _) | (with_reducible refine Below.setCell ?_ ?_ _) | (with_reducible refine below_after ?_ ?_ _) | (with_reducible refine below_set ?_) | (with_reducible refine After.size_le _ ?_) | (with_reducible refine size_alloc_le ?_) | (with_reducible refine size_set_le ?_) | (with_reducible refine size_drewN_le ?_) | go_size)))) ?_; intro x1; have hz_x1 := x1.out.size; (try simp only [World.size_alloc] at hz_x1); (try simp only [World.size_setCell] at hz_x1); have k0_x1 : b < x1.w.heap.size := (by omega); have j0_x1 : b < x1.w.heap.size + 1 := (by omega); have k1_x1 : b' < x1.w.heap.size := (by omega); have j1_x1 : b' < x1.w.heap.size + 1 := (by omega)
  (go_wp2_with fail); refine calls_after2 (HB.out _ (by (repeat' (first | (with_reducible exact Below.refl _ _) | (with_reducible assumption) | (with_reducible refine Below.alloc ?_ ?_ _) | (with_reducible refine Below.drew ?_) | (with_reducible refine below_drewN ?_ _) | (with_reducible refine Below.setCell ?_ ?_ _) | (with_reducible refine below_after ?_ ?_ _) | (with_reducible refine below_set ?_) | (with_reducible refine After.size_le _ ?_) | (with_reducible refine size_alloc_le ?_) | (with_reducible refine size_set_le ?_) | (with_reducible refine size_drewN_le ?_) | go_size)))) ?_; intro x2; have hz_x2 := x2.out.size; (try simp only [World.size_alloc] at hz_x2); (try simp only [World.size_setCell] at hz_x2); have k0_x2 : b < x2.w.heap.size := (by omega); have j0_x2 : b < x2.w.heap.size + 1 := (by omega); have k1_x2 : b' < x2.w.heap.size := (by omega); have j1_x2 : b' < x2.w.heap.size + 1 := (by omega)
  go_wp2_with (go_at_call 68; go_in)
  refine calls_after2 (HE.out _ (by (repeat' (first | (with_reducible exact Below.refl _ _) | (with_reducible assumption) | (with_reducible refine Below.alloc ?_ ?_ _) | (with_reducible refine Below.drew ?_) | (with_reducible refine below_drewN ?_ _) | (with_reducible refine Below.setCell ?_ ?_ _) | (with_reducible refine below_after ?_ ?_ _) | (with_reducible refine below_set ?_) | (with_reducible refine After.size_le _ ?_) | (with_reducible refine size_alloc_le ?_) | (with_reducible refine size_set_le ?_) | (with_reducible refine size_drewN_le ?_) | go_size)))) ?_
  intro x3
  have hz_x3 := x3.out.size; (try simp only [World.size_alloc] at hz_x3); (try simp only [World.size_setCell] at hz_x3); have k0_x3 : b < x3.w.heap.size := (by omega); have j0_x3 : b < x3.w.heap.size + 1 := (by omega); have k1_x3 : b' < x3.w.heap.size := (by omega); have j1_x3 : b' < x3.w.heap.size + 1 := (by omega)
  clear HA HB HE
  have h3 := x3.out.size
  go_wp2
  go_loopw [8, 36] (fun v i wr => ∃ k : Nat, k ≤ n ∧ i = .int .i64 k ∧ wr.ownsRow w.heap.size 3 1 v (mvL f g y k).length (ixC (mvL f g y k)) ∧ Below w.heap.size w wr) (fun _ i _ => n - (intOf i).toNat)
  case atStart => exact ⟨0, by omega, rfl, World.ownsRow_nil _ _ _ _, x3.out⟩
  case round =>
    obtain ⟨k, hk, rfl, hown, hbel⟩ := hrel
    by_cases hlt : k < n
    · have hS := Lib.hid (mvL_succ f g y k)
      have hle := mvL_le f g y k
      have HM : Hid (mvB f g y k = decide (y < (f k 1 - g k 1).natAbs ∨ y < (f k 2 - g k 2).natAbs)) := rfl
      obtain ⟨c1, c2, c3⟩ := HC.out k hlt
      obtain ⟨d1, d2, d3⟩ := HC'.out k hlt
      have c2 := (hbel.cell (p := ⟨b, _, none⟩) hb).trans c2
      have c3 := (hbel.cell (p := ⟨b, _, none⟩) hb).trans c3
      have d2 := (hbel.cell (p := ⟨b', _, none⟩) hb').trans d2
      have d3 := (hbel.cell (p := ⟨b', _, none⟩) hb').trans d3
      clear c1 d1
      have m1 := HF.out k hlt
      have m2 := HG.out k hlt
      unfold InMk at m1 m2
      have hsz := hbel.size
      generalize f k 1 = fe at *
      generalize f k 2 = fn at *
      generalize g k 1 = ge at *
      generalize g k 2 = gn at *
      obtain ⟨_, _, p1, p2, p3, p4⟩ := m1
      obtain ⟨_, _, q1, q2, q3, q4⟩ := m2
      have hbk := Nat.lt_of_lt_of_le hb hsz
      have hbk' := Nat.lt_of_lt_of_le hb' hsz
      by_cases h1 : y < (fe - ge).natAbs
      · have HM : Hid (mvB f g y k = true) := Lib.hid (by rw [HM.out]; simp; exact .inl h1)
        clear h3
        go_wp2_with fail
        refine wp_region_after (by kernel_rfl) (by kernel_rfl) ?_; (repeat (first | go_big_quiet_step (((go_at_call 73; exact quiet_after_same (abs_any _ _ (by omega) (by omega))))) | (refine wpQuiet_step (fun K hK => ?_); go_simp; first | (refine hK _ ?_; clear hK K) | (apply Exists.intro; refine ⟨fun x => ?_, hK _ ?_⟩; ((go_at_call 73; exact quiet_after_same (abs_any _ _ (by omega) (by omega)))); clear hK K)))); refine wpQuiet_nil ?_
        intro x
        have hown := owns_below hown x.out
        have hbel := hbel.trans (x.out.mono hsz)
        have hsz := hbel.size
        go_wp2_with (at_builtin; refine wpList_append_own _ rfl _ _ 65 rfl w.heap.size 3 i0 (.int .i64 0) 1 8 Try.underlying65 hi hz0 hz1 hz2 rfl (by decide) _ _ _ rfl (hown.alloc _) ⟨x.w.heap.size, 0, none⟩ 1 1 [.int .i64 k] rfl rfl (World.news_of_block (cs := #[.int .i64 k]) (t := 3) (fr := (0, 0)) (heap_alloc_new x.w _)) (by simp [Value.oneCell']) (by unfold maxLen; omega) (by omega) (by simp; omega) ?_; intro v' w1 hown' hgrow _)
        go_roundw
        case rel => exact ⟨k + 1, by omega, by go_num, by rw [hS.out, if_pos HM.out]; simpa [ixC] using hown', (hbel.alloc hbel.size _).grown hgrow (by simp; omega) (fun j e => (hown.lt j e).1)⟩
        case measure => simp [intOf]; omega
      · have g1 : decide (y < ((fe - ge).natAbs : Int)) = false := by simpa using h1
        by_cases h2 : y < (fn - gn).natAbs
        · have HM : Hid (mvB f g y k = true) := Lib.hid (by rw [HM.out]; simp; exact .inr h2)
          clear h3 h1
          go_wp2_with fail
          refine wp_region_after (by kernel_rfl) (by kernel_rfl) ?_; (repeat (first | go_big_quiet_step (((go_at_call 73; exact quiet_after_same (abs_any _ _ (by omega) (by omega))))) | (refine wpQuiet_step (fun K hK => ?_); go_simp; first | (refine hK _ ?_; clear hK K) | (apply Exists.intro; refine ⟨fun x => ?_, hK _ ?_⟩; ((go_at_call 73; exact quiet_after_same (abs_any _ _ (by omega) (by omega)))); clear hK K)))); refine wpQuiet_nil ?_
          intro x
          have hown := owns_below hown x.out
          have hbel := hbel.trans (x.out.mono hsz)
          have hsz := hbel.size
          go_wp2_with (at_builtin; refine wpList_append_own _ rfl _ _ 65 rfl w.heap.size 3 i0 (.int .i64 0) 1 8 Try.underlying65 hi hz0 hz1 hz2 rfl (by decide) _ _ _ rfl (hown.alloc _) ⟨x.w.heap.size, 0, none⟩ 1 1 [.int .i64 k] rfl rfl (World.news_of_block (cs := #[.int .i64 k]) (t := 3) (fr := (0, 0)) (heap_alloc_new x.w _)) (by simp [Value.oneCell']) (by unfold maxLen; omega) (by omega) (by simp; omega) ?_; intro v' w1 hown' hgrow _)
          go_roundw
          case rel => exact ⟨k + 1, by omega, by go_num, by rw [hS.out, if_pos HM.out]; simpa [ixC] using hown', (hbel.alloc hbel.size _).grown hgrow (by simp; omega) (fun j e => (hown.lt j e).1)⟩
          case measure => simp [intOf]; omega
        · have HM : Hid (mvB f g y k = false) := Lib.hid (by rw [HM.out]; simp; omega)
          clear h3 h1
          go_wp2_with fail
          refine wp_region_after (by kernel_rfl) (by kernel_rfl) ?_; (repeat (first | go_big_quiet_step (((go_at_call 73; exact quiet_after_same (abs_any _ _ (by omega) (by omega))))) | (refine wpQuiet_step (fun K hK => ?_); go_simp; first | (refine hK _ ?_; clear hK K) | (apply Exists.intro; refine ⟨fun x => ?_, hK _ ?_⟩; ((go_at_call 73; exact quiet_after_same (abs_any _ _ (by omega) (by omega)))); clear hK K)))); refine wpQuiet_nil ?_
          intro x
          have hown := owns_below hown x.out
          have hbel := hbel.trans (x.out.mono hsz)
          go_wp2
          go_roundw
          case rel => exact ⟨k + 1, by omega, by go_num, by rw [hS.out, HM.out]; simpa using hown, hbel⟩
          case measure => simp [intOf]; omega
    · obtain rfl : k = n := by omega
      have HO := Lib.hid hown
      have HBl := Lib.hid hbel
      clear hown hbel
      go_wp2
      go_returns
      exact ⟨_, rfl, HO.out, HBl.out⟩
end Go.Proofs.Ytdhobjflfhijjaa
