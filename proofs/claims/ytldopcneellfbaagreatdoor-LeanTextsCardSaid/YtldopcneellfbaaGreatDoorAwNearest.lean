/- What the program's Nearest comes to. -/
import Derived.Test.YtldopcneellfbaaGreatDoorAwThr
import Derived.Test.YtldopcneellfbaaGreatDoorAwGreatb
namespace Go.Proofs.YtldopcneellfbaaGreatDoor.Aw
open Go.Proofs.YtldopcneellfbaaGreatDoor
open Go.RowKit
attribute [local go_sem] After.cell After.frozen After.lt After.le After.ne After.ne' After.set_eq After.size_set After.lt_add

def ptAt (ps : List (Int × Int)) (i : Nat) : Int × Int := ps.getD i (0, 0)
/-- The triple that bends most, the first of several. -/
def bestTri (ps : List (Int × Int)) : Tri := triAt (trips ps.length) (bestTo (fun i j => cmpB ps (triAt (trips ps.length) i) (triAt (trips ps.length) j)) (trips ps.length).length)
/-- The nearest line's numbers before they are divided. -/
def nlA (ps : List (Int × Int)) : Int := if ps.length = 1 then (ptAt ps 0).2 else if ps.length = 2 then thrA (ptAt ps 0) (ptAt ps 1) else notA (ptAt ps (bestTri ps).1) (ptAt ps (bestTri ps).2.1) (ptAt ps (bestTri ps).2.2)
def nlB (ps : List (Int × Int)) : Int := if ps.length = 1 then 0 else if ps.length = 2 then thrB (ptAt ps 0) (ptAt ps 1) else notB (ptAt ps (bestTri ps).1) (ptAt ps (bestTri ps).2.2)
def nlD (ps : List (Int × Int)) : Int := if ps.length = 1 then 1 else if ps.length = 2 then thrD (ptAt ps 0) (ptAt ps 1) else notD (ptAt ps (bestTri ps).1) (ptAt ps (bestTri ps).2.2)

theorem trips_mem {n : Nat} {x : Tri} (h : x ∈ trips n) : x.1 < x.2.1 ∧ x.2.1 < x.2.2 ∧ x.2.2 < n := by
  unfold trips tripsI tripsJ tripsK at h
  simp only [List.mem_flatMap, List.mem_map, List.mem_range'_1] at h
  obtain ⟨a, _, b, hb, c, hc, rfl⟩ := h
  dsimp only
  omega
theorem triAt_mem {ts : List Tri} {i : Nat} (h : i < ts.length) : triAt ts i ∈ ts := by
  unfold triAt
  rw [List.getD_eq_getElem?_getD, List.getElem?_eq_getElem h]
  exact List.getElem_mem h
theorem trips_ne {n : Nat} (h : 3 ≤ n) : 0 < (trips n).length := by
  have := tripsTo_lt (n := n) (i := 0) (j := 1) (k := 2) (by omega) (by omega) (by omega)
  omega
theorem triCs_get {ts : List Tri} : ∀ {i : Nat}, i < ts.length → (triCs ts)[i * 3]? = some (.int .i64 (triAt ts i).1) ∧ (triCs ts)[i * 3 + 1]? = some (.int .i64 (triAt ts i).2.1) ∧ (triCs ts)[i * 3 + 2]? = some (.int .i64 (triAt ts i).2.2) := by
  induction ts with
  | nil => intro i h; simp at h
  | cons x ts ih =>
    intro i h
    have e : triCs (x :: ts) = [.int .i64 x.1, .int .i64 x.2.1, .int .i64 x.2.2] ++ triCs ts := by simp [triCs, triC]
    rw [e]
    cases i with
    | zero => simp [triAt]
    | succ i =>
      have := ih (i := i) (by simpa using h)
      have e2 : triAt (x :: ts) (i + 1) = triAt ts i := by simp [triAt]
      rw [e2, show (i + 1) * 3 = i * 3 + 3 by omega]
      rw [List.getElem?_append_right (by simp), List.getElem?_append_right (by simp), List.getElem?_append_right (by simp)]
      simpa using this

theorem validPoints_t (b off cap : Nat) (ps : List (Int × Int)) (w : World) (hb : b < w.heap.size) (hlen : ps.length ≤ 1000)
    (hc : ∀ i, i < ps.length → w.cell? ⟨b, off + i * 2, none⟩ = some (.int .i64 (ps.getD i (0, 0)).1) ∧ w.cell? ⟨b, off + i * 2 + 1, none⟩ = some (.int .i64 (ps.getD i (0, 0)).2)) (hG : GoodPts ps) :
    Calls Tryz.prog 22 #[.slice (some ⟨b, off, none⟩) ps.length cap] w fun e w' => e = .returned (.bool true) ∧ Below w.heap.size w w' :=
  (validPoints_any b off cap ps w hb hlen hc).mono fun _ _ ⟨h1, h2⟩ => ⟨by rw [h1]; simp [hG], h2⟩
theorem validPoints_f (b off cap : Nat) (ps : List (Int × Int)) (w : World) (hb : b < w.heap.size) (hlen : ps.length ≤ 1000)
    (hc : ∀ i, i < ps.length → w.cell? ⟨b, off + i * 2, none⟩ = some (.int .i64 (ps.getD i (0, 0)).1) ∧ w.cell? ⟨b, off + i * 2 + 1, none⟩ = some (.int .i64 (ps.getD i (0, 0)).2)) (hG : ¬ GoodPts ps) :
    Calls Tryz.prog 22 #[.slice (some ⟨b, off, none⟩) ps.length cap] w fun e w' => e = .returned (.bool false) ∧ Below w.heap.size w w' :=
  (validPoints_any b off cap ps w hb hlen hc).mono fun _ _ ⟨h1, h2⟩ => ⟨by rw [h1]; simp [hG], h2⟩

/-- The points' cells lie on in every world that comes behind. -/
theorem cells_on {b off : Nat} {ps : List (Int × Int)} {w W : World} (hb : b < w.heap.size)
    (hc : ∀ i, i < ps.length → w.cell? ⟨b, off + i * 2, none⟩ = some (.int .i64 (ps.getD i (0, 0)).1) ∧ w.cell? ⟨b, off + i * 2 + 1, none⟩ = some (.int .i64 (ps.getD i (0, 0)).2)) (hW : Below w.heap.size w W) :
    ∀ i, i < ps.length → W.cell? ⟨b, off + i * 2, none⟩ = some (.int .i64 (ps.getD i (0, 0)).1) ∧ W.cell? ⟨b, off + i * 2 + 1, none⟩ = some (.int .i64 (ps.getD i (0, 0)).2) :=
  fun i hi => ⟨(hW.cell (p := ⟨b, _, none⟩) hb).trans (hc i hi).1, (hW.cell (p := ⟨b, _, none⟩) hb).trans (hc i hi).2⟩

set_option maxRecDepth 100000 in
set_option maxHeartbeats 400000 in
theorem nearest_bad (b off cap : Nat) (ps : List (Int × Int)) (w : World) (hb : b < w.heap.size) (hlen : ps.length ≤ 1000)
    (hc : ∀ i, i < ps.length → w.cell? ⟨b, off + i * 2, none⟩ = some (.int .i64 (ps.getD i (0, 0)).1) ∧ w.cell? ⟨b, off + i * 2 + 1, none⟩ = some (.int .i64 (ps.getD i (0, 0)).2)) (hG : ¬ GoodPts ps) :
    Calls Tryz.prog 10 #[.slice (some ⟨b, off, none⟩) ps.length cap] w fun e w' => e = .returned (.tuple #[.agg #[.int .i64 0, .int .i64 0, .int .i64 0], .int .i64 1]) ∧ Below w.heap.size w w' := by
  have HV : Hid (∀ W, Below w.heap.size w W → _) := fun W hW => validPoints_f b off cap ps W (Nat.lt_of_lt_of_le hb hW.size) hlen (cells_on hb hc hW) hG
  clear hc hG
  go_enter Tryz.func10, Tryz.ntmps10
  go_wp2_with fail
  refine calls_after (HV.out _ (by (repeat' (first | (with_reducible exact Below.refl _ _) | (with_reducible assumption) | (with_reducible refine Below.alloc ?_ ?_ _) | (with_reducible refine Below.drew ?_) | (with_reducible refine below_drewN ?_ _) | (with_reducible refine Below.setCell ?_ ?_ _) | (with_reducible refine below_after ?_ ?_ _) | (with_reducible refine below_set ?_) | (with_reducible refine After.size_le _ ?_) | (with_reducible refine size_alloc_le ?_) | (with_reducible refine size_set_le ?_) | (with_reducible refine size_drewN_le ?_) | go_size)))) ?_
  intro x1
  go_wp2_with fail
  go_returns
  exact ⟨rfl, by (repeat' (first | (with_reducible exact Below.refl _ _) | (with_reducible assumption) | (with_reducible refine Below.alloc ?_ ?_ _) | (with_reducible refine Below.drew ?_) | (with_reducible refine below_drewN ?_ _) | (with_reducible refine Below.setCell ?_ ?_ _) | (with_reducible refine below_after ?_ ?_ _) | (with_reducible refine below_set ?_) | (with_reducible refine After.size_le _ ?_) | (with_reducible refine size_alloc_le ?_) | (with_reducible refine size_set_le ?_) | (with_reducible refine size_drewN_le ?_) | go_size))⟩
set_option maxRecDepth 100000 in
set_option maxHeartbeats 400000 in
theorem nearest_one (b off cap : Nat) (ps : List (Int × Int)) (w : World) (hb : b < w.heap.size) (h1 : ps.length = 1)
    (hc : ∀ i, i < ps.length → w.cell? ⟨b, off + i * 2, none⟩ = some (.int .i64 (ps.getD i (0, 0)).1) ∧ w.cell? ⟨b, off + i * 2 + 1, none⟩ = some (.int .i64 (ps.getD i (0, 0)).2)) (hG : GoodPts ps) :
    Calls Tryz.prog 10 #[.slice (some ⟨b, off, none⟩) ps.length cap] w fun e w' => e = .returned (.tuple #[.agg #[.int .i64 (mkA (nlA ps) (nlB ps) (nlD ps)), .int .i64 (mkB (nlA ps) (nlB ps) (nlD ps)), .int .i64 (mkD (nlA ps) (nlB ps) (nlD ps))], .int .i64 (mkE (nlA ps) (nlB ps) (nlD ps))]) ∧ Below w.heap.size w w' := by
  have HV : Hid (∀ W, Below w.heap.size w W → _) := fun W hW => validPoints_t b off cap ps W (Nat.lt_of_lt_of_le hb hW.size) (by omega) (cells_on hb hc hW) hG
  have e : nlA ps = (ptAt ps 0).2 ∧ nlB ps = 0 ∧ nlD ps = 1 := by simp [nlA, nlB, nlD, h1]
  rw [e.1, e.2.1, e.2.2]
  obtain ⟨c1, c2⟩ := hc 0 (by omega)
  rw [show off + 0 * 2 = off by omega] at c1 c2
  rw [h1] at HV ⊢
  unfold ptAt
  clear hc hG e h1
  generalize ps.getD 0 (0, 0) = p at *
  obtain ⟨ph, px⟩ := p
  dsimp only at *
  have hb1 : b < w.heap.size + 1 := by omega
  have hb2 : b < w.heap.size + 2 := by omega
  go_enter Tryz.func10, Tryz.ntmps10
  go_wp2_with fail
  refine calls_after (HV.out _ (by (repeat' (first | (with_reducible exact Below.refl _ _) | (with_reducible assumption) | (with_reducible refine Below.alloc ?_ ?_ _) | (with_reducible refine Below.drew ?_) | (with_reducible refine below_drewN ?_ _) | (with_reducible refine Below.setCell ?_ ?_ _) | (with_reducible refine below_after ?_ ?_ _) | (with_reducible refine below_set ?_) | (with_reducible refine After.size_le _ ?_) | (with_reducible refine size_alloc_le ?_) | (with_reducible refine size_set_le ?_) | (with_reducible refine size_drewN_le ?_) | go_size)))) ?_
  intro x1
  clear HV
  go_wp2_with fail
  refine calls_after2 (make_any _ _ _ _) ?_
  intro x2
  go_wp2_with fail
  go_returns
  exact ⟨rfl, by (repeat' (first | (with_reducible exact Below.refl _ _) | (with_reducible assumption) | (with_reducible refine Below.alloc ?_ ?_ _) | (with_reducible refine Below.drew ?_) | (with_reducible refine below_drewN ?_ _) | (with_reducible refine Below.setCell ?_ ?_ _) | (with_reducible refine below_after ?_ ?_ _) | (with_reducible refine below_set ?_) | (with_reducible refine After.size_le _ ?_) | (with_reducible refine size_alloc_le ?_) | (with_reducible refine size_set_le ?_) | (with_reducible refine size_drewN_le ?_) | go_size))⟩

theorem goodPts_at {ps : List (Int × Int)} (hG : GoodPts ps) : AllIn ps := fun i hi => (hG.2.2 i hi).1
theorem goodPts_lt {ps : List (Int × Int)} (hG : GoodPts ps) : ∀ {i j : Nat}, i < j → j < ps.length → (ptAt ps i).1 < (ptAt ps j).1 := by
  intro i j hij hj
  induction j with
  | zero => omega
  | succ j ih =>
    have h1 := (hG.2.2 (j + 1) hj).2 (by omega)
    rw [show j + 1 - 1 = j by omega] at h1
    rcases Nat.lt_or_ge i j with h | h
    · exact Int.lt_trans (ih h (by omega)) h1
    · obtain rfl : i = j := by omega
      exact h1

set_option maxRecDepth 100000 in
set_option maxHeartbeats 400000 in
theorem nearest_two (b off cap : Nat) (ps : List (Int × Int)) (w : World) (hb : b < w.heap.size) (h1 : ps.length = 2)
    (hc : ∀ i, i < ps.length → w.cell? ⟨b, off + i * 2, none⟩ = some (.int .i64 (ps.getD i (0, 0)).1) ∧ w.cell? ⟨b, off + i * 2 + 1, none⟩ = some (.int .i64 (ps.getD i (0, 0)).2)) (hG : GoodPts ps) :
    Calls Tryz.prog 10 #[.slice (some ⟨b, off, none⟩) ps.length cap] w fun e w' => e = .returned (.tuple #[.agg #[.int .i64 (mkA (nlA ps) (nlB ps) (nlD ps)), .int .i64 (mkB (nlA ps) (nlB ps) (nlD ps)), .int .i64 (mkD (nlA ps) (nlB ps) (nlD ps))], .int .i64 (mkE (nlA ps) (nlB ps) (nlD ps))]) ∧ Below w.heap.size w w' := by
  have HV : Hid (∀ W, Below w.heap.size w W → _) := fun W hW => validPoints_t b off cap ps W (Nat.lt_of_lt_of_le hb hW.size) (by omega) (cells_on hb hc hW) hG
  have e : nlA ps = thrA (ptAt ps 0) (ptAt ps 1) ∧ nlB ps = thrB (ptAt ps 0) (ptAt ps 1) ∧ nlD ps = thrD (ptAt ps 0) (ptAt ps 1) := by simp [nlA, nlB, nlD, h1]
  have HT := Lib.hid (fun w => through_lt (ptAt ps 0) (ptAt ps 1) w (goodPts_at hG 0 (by omega)) (goodPts_at hG 1 (by omega)) (goodPts_lt hG (by omega) (by omega)))
  rw [e.1, e.2.1, e.2.2]
  obtain ⟨c1, c2⟩ := hc 0 (by omega)
  obtain ⟨d1, d2⟩ := hc 1 (by omega)
  rw [show off + 0 * 2 = off by omega] at c1 c2
  rw [show off + 1 * 2 = off + 2 by omega] at d1 d2
  rw [show off + 2 + 1 = off + 3 by omega] at d2
  rw [h1] at HV ⊢
  unfold ptAt at *
  clear hc hG e h1
  generalize ps.getD 0 (0, 0) = p at *
  generalize ps.getD 1 (0, 0) = q at *
  obtain ⟨ph, px⟩ := p
  obtain ⟨qh, qx⟩ := q
  dsimp only at *
  have hb1 : b < w.heap.size + 1 := by omega
  have hb2 : b < w.heap.size + 2 := by omega
  go_enter Tryz.func10, Tryz.ntmps10
  go_wp2_with fail
  refine calls_after (HV.out _ (by (repeat' (first | (with_reducible exact Below.refl _ _) | (with_reducible assumption) | (with_reducible refine Below.alloc ?_ ?_ _) | (with_reducible refine Below.drew ?_) | (with_reducible refine below_drewN ?_ _) | (with_reducible refine Below.setCell ?_ ?_ _) | (with_reducible refine below_after ?_ ?_ _) | (with_reducible refine below_set ?_) | (with_reducible refine After.size_le _ ?_) | (with_reducible refine size_alloc_le ?_) | (with_reducible refine size_set_le ?_) | (with_reducible refine size_drewN_le ?_) | go_size)))) ?_
  intro x1
  clear HV
  have s0 : w.heap.size < x1.w.heap.size := by have := x1.out.size; simp at this; omega
  have s1 : w.heap.size + 1 < x1.w.heap.size := by have := x1.out.size; simp at this; omega
  have sb : b < x1.w.heap.size := by omega
  go_wp2_with fail
  refine wp_region_after_tail 9 (by kernel_rfl) (by kernel_rfl) ?_; simp only [List.take_succ_cons, List.take_zero, List.drop_succ_cons, List.drop_zero]; (repeat (first | go_big_quiet_step ((go_at_call 24; exact quiet_after (HT.out _))) | (refine wpQuiet_step (fun K hK => ?_); go_simp; first | (refine hK _ ?_; clear hK K) | (apply Exists.intro; refine ⟨fun x => ?_, hK _ ?_⟩; (go_at_call 24; exact quiet_after (HT.out _)); clear hK K)))); refine wpQuiet_nil ?_
  intro x2
  go_wp2_with fail
  go_returns
  exact ⟨rfl, by (repeat' (first | (with_reducible exact Below.refl _ _) | (with_reducible assumption) | (with_reducible refine Below.alloc ?_ ?_ _) | (with_reducible refine Below.drew ?_) | (with_reducible refine below_drewN ?_ _) | (with_reducible refine Below.setCell ?_ ?_ _) | (with_reducible refine below_after ?_ ?_ _) | (with_reducible refine below_set ?_) | (with_reducible refine After.size_le _ ?_) | (with_reducible refine size_alloc_le ?_) | (with_reducible refine size_set_le ?_) | (with_reducible refine size_drewN_le ?_) | go_size))⟩

theorem mk_after {P : Program} {f : FuncId} {args : Array Value} {W : World} {Q : Ending → World → Prop} {R : Value → World → Prop}
    (h : Calls P f args W fun e w' => ∃ v, e = .returned v ∧ R v w' ∧ Below W.heap.size W w') (k : ∀ (v : Value) (x : After W), R v x.w → Q (.returned v) x.w) : Calls P f args W Q :=
  h.mono fun _ w' ⟨v, h1, h2, h3⟩ => by subst h1; exact k v ⟨w', h3⟩ h2

set_option maxRecDepth 100000 in
set_option maxHeartbeats 1000000 in
theorem nearest_more (b off cap : Nat) (ps : List (Int × Int)) (w : World) (hb : b < w.heap.size) (h1 : 3 ≤ ps.length)
    (hc : ∀ i, i < ps.length → w.cell? ⟨b, off + i * 2, none⟩ = some (.int .i64 (ps.getD i (0, 0)).1) ∧ w.cell? ⟨b, off + i * 2 + 1, none⟩ = some (.int .i64 (ps.getD i (0, 0)).2)) (hG : GoodPts ps) :
    Calls Tryz.prog 10 #[.slice (some ⟨b, off, none⟩) ps.length cap] w fun e w' => e = .returned (.tuple #[.agg #[.int .i64 (mkA (nlA ps) (nlB ps) (nlD ps)), .int .i64 (mkB (nlA ps) (nlB ps) (nlD ps)), .int .i64 (mkD (nlA ps) (nlB ps) (nlD ps))], .int .i64 (mkE (nlA ps) (nlB ps) (nlD ps))]) ∧ Below w.heap.size w w' := by
  have hlen : ps.length ≤ 40 := hG.2.1
  have HV : Hid (∀ W, Below w.heap.size w W → _) := fun W hW => validPoints_t b off cap ps W (Nat.lt_of_lt_of_le hb hW.size) (by omega) (cells_on hb hc hW) hG
  have e : nlA ps = notA (ptAt ps (bestTri ps).1) (ptAt ps (bestTri ps).2.1) (ptAt ps (bestTri ps).2.2) ∧ nlB ps = notB (ptAt ps (bestTri ps).1) (ptAt ps (bestTri ps).2.2) ∧ nlD ps = notD (ptAt ps (bestTri ps).1) (ptAt ps (bestTri ps).2.2) := by
    unfold nlA nlB nlD
    rw [if_neg (by omega), if_neg (by omega), if_neg (by omega), if_neg (by omega), if_neg (by omega), if_neg (by omega)]
    exact ⟨rfl, rfl, rfl⟩
  have hne := trips_ne h1
  have htl := trips_lt ps.length (by omega)
  have hq := bestTo_lt (fun i j => cmpB ps (triAt (trips ps.length) i) (triAt (trips ps.length) j)) (trips ps.length).length hne
  have hm := trips_mem (triAt_mem hq)
  have HN := Lib.hid (fun w => nearestOfThree_any (ptAt ps (bestTri ps).1) (ptAt ps (bestTri ps).2.1) (ptAt ps (bestTri ps).2.2) w (goodPts_at hG _ (by unfold bestTri; omega)) (goodPts_at hG _ (by unfold bestTri; omega)) (goodPts_at hG _ (by unfold bestTri; omega)))
  rw [← e.1, ← e.2.1, ← e.2.2] at HN
  have HGr : Hid (∀ (g Bx cap2 : Nat) (W : World), Below w.heap.size w W → Bx < W.heap.size → g < W.heap.size → W.cell? ⟨Bx, 0, none⟩ = some (.slice (some ⟨b, off, none⟩) ps.length cap) → (∀ j u, (triCs (trips ps.length))[j]? = some u → W.cell? ((⟨g, 0, none⟩ : Addr).add j) = some u) → _) := fun g Bx cap2 W hW hB hg hbx hrow =>
    greatTri_any b off cap Bx g cap2 ps (trips ps.length) W (Nat.lt_of_lt_of_le hb hW.size) hB hg (by omega) hbx (cells_on hb hc hW) (fun i hi => by
      have := trips_mem (triAt_mem hi)
      exact ⟨by omega, by omega, by omega⟩) (goodPts_at hG) hne (by omega) (fun i hi => by
      have := triCs_get hi
      have a1 := hrow _ _ this.1
      have a2 := hrow _ _ this.2.1
      have a3 := hrow _ _ this.2.2
      simp only [Addr.add] at a1 a2 a3
      refine ⟨?_, ?_, ?_⟩
      · split at a1
        · rename_i h0; rw [h0]; exact a1
        · simpa using a1
      · simpa using a2
      · simpa using a3)
  have hm' : (bestTri ps).1 < ps.length ∧ (bestTri ps).2.1 < ps.length ∧ (bestTri ps).2.2 < ps.length := by unfold bestTri; omega
  obtain ⟨c1, c2⟩ := hc _ hm'.1
  obtain ⟨d1, d2⟩ := hc _ hm'.2.1
  obtain ⟨f1, f2⟩ := hc _ hm'.2.2
  have HT := triCs_get hq
  have HB : Hid (triAt (trips ps.length) (bestTo (fun i j => cmpB ps (triAt (trips ps.length) i) (triAt (trips ps.length) j)) (trips ps.length).length) = bestTri ps) := rfl
  rw [HB.out] at HT
  clear HB
  generalize bestTo (fun i j => cmpB ps (triAt (trips ps.length) i) (triAt (trips ps.length) j)) (trips ps.length).length = q at *
  unfold ptAt at HN
  generalize bestTri ps = t at *
  obtain ⟨ti, tj, tk⟩ := t
  dsimp only at *
  generalize mkA (nlA ps) (nlB ps) (nlD ps) = m1 at *
  generalize mkB (nlA ps) (nlB ps) (nlD ps) = m2 at *
  generalize mkD (nlA ps) (nlB ps) (nlD ps) = m3 at *
  generalize mkE (nlA ps) (nlB ps) (nlD ps) = m4 at *
  have HQ := Lib.hid (And.intro HT (And.intro hne htl))
  clear e hm hc hG HT hne htl
  generalize ps.getD ti (0, 0) = P1 at *
  generalize ps.getD tj (0, 0) = P2 at *
  generalize ps.getD tk (0, 0) = P3 at *
  obtain ⟨h3, h4, h5⟩ := hm'
  have i1 : (ti : Int) < (ps.length : Int) := by omega
  have i2 : (tj : Int) < (ps.length : Int) := by omega
  have i3 : (tk : Int) < (ps.length : Int) := by omega
  obtain ⟨p1h, p1x⟩ := P1
  obtain ⟨p2h, p2x⟩ := P2
  obtain ⟨p3h, p3x⟩ := P3
  dsimp only at *
  have hb1 : b < w.heap.size + 1 := by omega
  have hb2 : b < w.heap.size + 2 := by omega
  have e1 : ((ps.length : Int) == 1) = false := beq_eq_false_iff_ne.2 (by omega)
  have e2 : ((ps.length : Int) == 2) = false := beq_eq_false_iff_ne.2 (by omega)
  go_enter Tryz.func10, Tryz.ntmps10
  go_wp2_with fail
  refine calls_after (HV.out _ (by (repeat' (first | (with_reducible exact Below.refl _ _) | (with_reducible assumption) | (with_reducible refine Below.alloc ?_ ?_ _) | (with_reducible refine Below.drew ?_) | (with_reducible refine below_drewN ?_ _) | (with_reducible refine Below.setCell ?_ ?_ _) | (with_reducible refine below_after ?_ ?_ _) | (with_reducible refine below_set ?_) | (with_reducible refine After.size_le _ ?_) | (with_reducible refine size_alloc_le ?_) | (with_reducible refine size_set_le ?_) | (with_reducible refine size_drewN_le ?_) | go_size)))) ?_
  intro x1
  clear HV
  have s0 : w.heap.size < x1.w.heap.size := by have := x1.out.size; simp at this; omega
  have s1 : w.heap.size + 1 < x1.w.heap.size := by have := x1.out.size; simp at this; omega
  have sb : b < x1.w.heap.size := by omega
  go_wp2_with fail
  refine (triples_any _ _).mono ?_
  rintro e w2 ⟨rfl, rfl⟩
  go_wp2_with fail
  refine mk_after ((collect_any x1.w.heap.size ps.length (by omega) _ (by simp) (by simp [go_sem])).mono fun _ _ ⟨v, a1, a2, _, a4⟩ => ⟨v, a1, a2, a4⟩) ?_
  intro v y hr
  obtain ⟨g, cap2, rfl, hgb, hglt⟩ := hr.form HQ.out.2.1
  have HG := Lib.hid (hr.cells (g := g) rfl)
  have t0 : w.heap.size < y.w.heap.size := by have := y.out.size; simp at this; omega
  have t1 : w.heap.size + 1 < y.w.heap.size := by have := y.out.size; simp at this; omega
  have tb : b < y.w.heap.size := by omega
  clear hr hgb
  have u1 : y.w.cell? ⟨g, q * 3, none⟩ = some (.int .i64 ti) := by
    have := HG.out _ _ HQ.out.1.1
    simp only [Addr.add] at this
    split at this
    · rename_i h0; rw [h0]; exact this
    · simpa using this
  have u2 : y.w.cell? ⟨g, q * 3 + 1, none⟩ = some (.int .i64 tj) := by
    have := HG.out _ _ HQ.out.1.2.1
    simpa [Addr.add] using this
  have u3 : y.w.cell? ⟨g, q * 3 + 2, none⟩ = some (.int .i64 tk) := by
    have := HG.out _ _ HQ.out.1.2.2
    simpa [Addr.add] using this
  have q1 : (q : Int) < ((trips ps.length).length : Int) := by omega
  have q2 : ((trips ps.length).length : Int) ≤ 1000000 := by have := HQ.out.2.2; omega
  go_wp2_with fail
  refine calls_after (HGr.out g w.heap.size cap2 y.w (by (repeat' (first | (with_reducible exact Below.refl _ _) | (with_reducible assumption) | (with_reducible refine Below.alloc ?_ ?_ _) | (with_reducible refine Below.drew ?_) | (with_reducible refine below_drewN ?_ _) | (with_reducible refine Below.setCell ?_ ?_ _) | (with_reducible refine below_after ?_ ?_ _) | (with_reducible refine below_set ?_) | (with_reducible refine After.size_le _ ?_) | (with_reducible refine size_alloc_le ?_) | (with_reducible refine size_set_le ?_) | (with_reducible refine size_drewN_le ?_) | go_size))) t0 hglt (by simp [go_sem, s0]) HG.out) ?_
  intro y2
  clear HGr HG
  have v0 : w.heap.size < y2.w.heap.size := by have := y2.out.size; omega
  have v1 : w.heap.size + 1 < y2.w.heap.size := by have := y2.out.size; omega
  have vb : b < y2.w.heap.size := by omega
  go_wp2_with fail
  refine wp_region_after_tail 18 (by kernel_rfl) (by kernel_rfl) ?_; simp only [List.take_succ_cons, List.take_zero, List.drop_succ_cons, List.drop_zero]; (repeat (first | go_big_quiet_step ((go_at_call 31; exact quiet_after (HN.out _))) | (refine wpQuiet_step (fun K hK => ?_); go_simp; first | (refine hK _ ?_; clear hK K) | (apply Exists.intro; refine ⟨fun x => ?_, hK _ ?_⟩; (go_at_call 31; exact quiet_after (HN.out _)); clear hK K)))); refine wpQuiet_nil ?_
  intro z
  go_wp2_with fail
  have z1 : w.heap.size + 1 < y2.w.heap.size + 1 := by omega
  have z2 : w.heap.size + 1 < x1.w.heap.size + 1 := by omega
  have r0 : x1.w.cell? ⟨w.heap.size + 1, 0, none⟩ = some (.int .i64 0) := by simp [go_sem]
  have r1 : x1.w.cell? ⟨w.heap.size + 1, 1, none⟩ = some (.int .i64 0) := by simp [go_sem]
  have r2 : x1.w.cell? ⟨w.heap.size + 1, 2, none⟩ = some (.int .i64 0) := by simp [go_sem]
  have on : ∀ (o : Nat) (u : Value), x1.w.cell? ⟨w.heap.size + 1, o, none⟩ = some u → z.w.cell? ⟨w.heap.size + 1, o, none⟩ = some u := fun o u h =>
    (z.cell _ (by simpa using z1)).trans (keep_alloc ((y2.cell _ t1).trans ((y.cell _ (by simpa using z2)).trans (keep_alloc h))))
  obtain ⟨w0, w1, w2⟩ := z.set3 (.int .i64 m1) (.int .i64 m2) (.int .i64 m3) (on 0 _ r0) (on 1 _ r1) (on 2 _ r2)
  clear on
  refine bodyPost_ret (v := .tuple #[.agg #[.int .i64 m1, .int .i64 m2, .int .i64 m3], .int .i64 m4]) (by simp [results, Tryz.results10, go_sem, w0, w1, w2]) rfl ⟨rfl, ?_⟩
  (repeat' (first | (with_reducible exact Below.refl _ _) | (with_reducible assumption) | (with_reducible refine Below.alloc ?_ ?_ _) | (with_reducible refine Below.drew ?_) | (with_reducible refine below_drewN ?_ _) | (with_reducible refine Below.setCell ?_ ?_ _) | (with_reducible refine below_after ?_ ?_ _) | (with_reducible refine below_set ?_) | (with_reducible refine After.size_le _ ?_) | (with_reducible refine size_alloc_le ?_) | (with_reducible refine size_set_le ?_) | (with_reducible refine size_drewN_le ?_) | go_size))

/-- The nearest line's numbers and the error. -/
def neA (ps : List (Int × Int)) : Int := if GoodPts ps then mkA (nlA ps) (nlB ps) (nlD ps) else 0
def neB (ps : List (Int × Int)) : Int := if GoodPts ps then mkB (nlA ps) (nlB ps) (nlD ps) else 0
def neD (ps : List (Int × Int)) : Int := if GoodPts ps then mkD (nlA ps) (nlB ps) (nlD ps) else 0
def neE (ps : List (Int × Int)) : Int := if GoodPts ps then mkE (nlA ps) (nlB ps) (nlD ps) else 1
theorem nearest_any (b off cap : Nat) (ps : List (Int × Int)) (w : World) (hb : b < w.heap.size) (hlen : ps.length ≤ 1000)
    (hc : ∀ i, i < ps.length → w.cell? ⟨b, off + i * 2, none⟩ = some (.int .i64 (ps.getD i (0, 0)).1) ∧ w.cell? ⟨b, off + i * 2 + 1, none⟩ = some (.int .i64 (ps.getD i (0, 0)).2)) :
    Calls Tryz.prog 10 #[.slice (some ⟨b, off, none⟩) ps.length cap] w fun e w' => e = .returned (.tuple #[.agg #[.int .i64 (neA ps), .int .i64 (neB ps), .int .i64 (neD ps)], .int .i64 (neE ps)]) ∧ Below w.heap.size w w' := by
  by_cases hG : GoodPts ps
  · have e : neA ps = mkA (nlA ps) (nlB ps) (nlD ps) ∧ neB ps = mkB (nlA ps) (nlB ps) (nlD ps) ∧ neD ps = mkD (nlA ps) (nlB ps) (nlD ps) ∧ neE ps = mkE (nlA ps) (nlB ps) (nlD ps) := by simp [neA, neB, neD, neE, hG]
    rw [e.1, e.2.1, e.2.2.1, e.2.2.2]
    rcases (show ps.length = 1 ∨ ps.length = 2 ∨ 3 ≤ ps.length by have := hG.1; omega) with h | h | h
    · exact nearest_one b off cap ps w hb h hc hG
    · exact nearest_two b off cap ps w hb h hc hG
    · exact nearest_more b off cap ps w hb h hc hG
  · have e : neA ps = 0 ∧ neB ps = 0 ∧ neD ps = 0 ∧ neE ps = 1 := by simp [neA, neB, neD, neE, hG]
    rw [e.1, e.2.1, e.2.2.1, e.2.2.2]
    exact nearest_bad b off cap ps w hb hlen hc hG

/-! ### The chapter's three points -/
def three : List (Int × Int) := [(0, 0), (10, 0), (20, 6)]
theorem three_line : neA three = -15 ∧ neB three = 3 ∧ neD three = 10 ∧ neE three = 0 := by decide +kernel

set_option maxRecDepth 100000 in
set_option maxHeartbeats 400000 in
theorem awake_any (w : World) : Calls Tryz.prog 4 #[] w fun e w' => e = .returned (.bool true) ∧ Below w.heap.size w w' := by
  have HN : Hid (∀ W : World, Calls Tryz.prog 10 #[.slice (some ⟨W.heap.size, 0, none⟩) 3 3] (W.alloc (.cells #[.int .i64 0, .int .i64 0, .int .i64 10, .int .i64 0, .int .i64 20, .int .i64 6] 35)) fun e w' => e = .returned (.tuple #[.agg #[.int .i64 (-15), .int .i64 3, .int .i64 10], .int .i64 0]) ∧ Below (W.alloc (.cells #[.int .i64 0, .int .i64 0, .int .i64 10, .int .i64 0, .int .i64 20, .int .i64 6] 35)).heap.size (W.alloc (.cells #[.int .i64 0, .int .i64 0, .int .i64 10, .int .i64 0, .int .i64 20, .int .i64 6] 35)) w') := fun W => by
    have h := nearest_any W.heap.size 0 3 three (W.alloc (.cells #[.int .i64 0, .int .i64 0, .int .i64 10, .int .i64 0, .int .i64 20, .int .i64 6] 35)) (by simp) (by simp [three]) (fun i hi => by
      rcases (show i = 0 ∨ i = 1 ∨ i = 2 by simp [three] at hi; omega) with rfl | rfl | rfl <;> simp [three, go_sem])
    rw [three_line.1, three_line.2.1, three_line.2.2.1, three_line.2.2.2] at h
    exact h
  go_enter Tryz.func4, Tryz.ntmps4
  go_wp2_with fail
  refine calls_after (HN.out _) ?_
  intro x
  go_wp2
  go_ret
  exact ⟨rfl, by (repeat' (first | (with_reducible exact Below.refl _ _) | (with_reducible assumption) | (with_reducible refine Below.alloc ?_ ?_ _) | (with_reducible refine Below.drew ?_) | (with_reducible refine below_drewN ?_ _) | (with_reducible refine Below.setCell ?_ ?_ _) | (with_reducible refine below_after ?_ ?_ _) | (with_reducible refine below_set ?_) | (with_reducible refine After.size_le _ ?_) | (with_reducible refine size_alloc_le ?_) | (with_reducible refine size_set_le ?_) | (with_reducible refine size_drewN_le ?_) | go_size))⟩
end Go.Proofs.YtldopcneellfbaaGreatDoor.Aw
