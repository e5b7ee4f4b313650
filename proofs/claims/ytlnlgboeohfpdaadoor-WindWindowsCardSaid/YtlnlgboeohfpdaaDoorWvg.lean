/- Merged forecasts: the mathematics, and the program. -/
import Derived.Test.YtlnlgboeohfpdaaDoorWvw
import Derived.Test.YtlnlgboeohfpdaaDoorWds
namespace Go.Proofs.YtlnlgboeohfpdaaDoor
open Go.RowKit
attribute [local go_sem] After.cell After.frozen After.lt After.le After.ne After.ne' After.set_eq After.size_set After.lt_add

/-- A cast goes on in the next one. -/
def OnQ (q x : Qd) : Prop := q.2.1 = x.1 ∧ q.2.2.1 = x.2.2.1 ∧ q.2.2.2 = x.2.2.2
instance (q x : Qd) : Decidable (OnQ q x) := by unfold OnQ; infer_instance
def addM (l : List Qd) (x : Qd) : List Qd := match l.getLast? with
  | none => [x]
  | some q => if OnQ q x then l.dropLast ++ [(q.1, x.2.1, q.2.2.1, q.2.2.2)] else l ++ [x]
theorem addM_nil (x : Qd) : addM [] x = [x] := rfl
theorem addM_last (l : List Qd) (q x : Qd) : addM (l ++ [q]) x = if OnQ q x then l ++ [(q.1, x.2.1, q.2.2.1, q.2.2.2)] else (l ++ [q]) ++ [x] := by
  unfold addM
  rw [show (l ++ [q]).getLast? = some q by simp]
  simp
theorem addM_len (l : List Qd) (x : Qd) : (addM l x).length ≤ l.length + 1 := by
  rcases nil_or_snoc l with rfl | ⟨l', q, rfl⟩
  · simp [addM_nil]
  · rw [addM_last]
    split <;> simp
def mgL (fr to lo hi : Nat → Int) : Nat → List Qd
  | 0 => []
  | k + 1 => addM (mgL fr to lo hi k) (cq fr to lo hi k)
theorem mgL_len {fr to lo hi : Nat → Int} : ∀ k, (mgL fr to lo hi k).length ≤ k
  | 0 => by simp [mgL]
  | k + 1 => Nat.le_trans (addM_len _ _) (by have := mgL_len (fr := fr) (to := to) (lo := lo) (hi := hi) k; omega)
/-- What Merged answers. -/
def mgE (n : Nat) (fr to lo hi : Nat → Int) : Int := if decide (GoodCs n fr to lo hi) then 0 else 1
def mgA (n : Nat) (fr to lo hi : Nat → Int) : List Qd := if decide (GoodCs n fr to lo hi) then mgL fr to lo hi n else []
/-- A row of casts. -/
def qcv (l : List Qd) : List Value := l.flatMap fun q => [.int .i64 q.1, .int .i64 q.2.1, .int .i64 q.2.2.1, .int .i64 q.2.2.2]
theorem qcv_snoc (l : List Qd) (q : Qd) : qcv (l ++ [q]) = qcv l ++ [.int .i64 q.1, .int .i64 q.2.1, .int .i64 q.2.2.1, .int .i64 q.2.2.2] := by simp [qcv]
theorem qcv_len (l : List Qd) : (qcv l).length = l.length * 4 := by
  induction l with
  | nil => rfl
  | cons p ps ih => simp only [qcv, List.flatMap_cons, List.length_append, List.length_cons, List.length_nil] at *; omega
theorem qcv_get : ∀ {l : List Qd} {i : Nat} (h : i < l.length), (qcv l)[i * 4]? = some (.int .i64 l[i].1) ∧ (qcv l)[i * 4 + 1]? = some (.int .i64 l[i].2.1) ∧ (qcv l)[i * 4 + 2]? = some (.int .i64 l[i].2.2.1) ∧ (qcv l)[i * 4 + 3]? = some (.int .i64 l[i].2.2.2)
  | p :: ps, 0, _ => by simp [qcv]
  | p :: ps, i + 1, h => by
    have e : qcv (p :: ps) = [.int .i64 p.1, .int .i64 p.2.1, .int .i64 p.2.2.1, .int .i64 p.2.2.2] ++ qcv ps := by simp [qcv]
    have := qcv_get (l := ps) (i := i) (by simpa using h)
    rw [e, show (i + 1) * 4 = i * 4 + 4 by omega, List.getElem?_append_right (by simp), List.getElem?_append_right (by simp), List.getElem?_append_right (by simp), List.getElem?_append_right (by simp)]
    simpa using this
theorem qcv_last (l : List Qd) (q : Qd) (z : Int) : (qcv (l ++ [q])).set (l.length * 4 + 1) (.int .i64 z) = qcv (l ++ [(q.1, z, q.2.2.1, q.2.2.2)]) := by
  rw [qcv_snoc, qcv_snoc, ← qcv_len, List.set_append_right _ _ (by omega), Nat.add_sub_cancel_left]
  rfl
theorem qcv_at (l : List Qd) (q : Qd) : (qcv (l ++ [q]))[l.length * 4]? = some (.int .i64 q.1) ∧ (qcv (l ++ [q]))[l.length * 4 + 1]? = some (.int .i64 q.2.1) ∧ (qcv (l ++ [q]))[l.length * 4 + 2]? = some (.int .i64 q.2.2.1) ∧ (qcv (l ++ [q]))[l.length * 4 + 3]? = some (.int .i64 q.2.2.2) := by
  have h := qcv_get (l := l ++ [q]) (i := l.length) (by simp)
  have e : (l ++ [q])[l.length]'(by simp) = q := by simp
  rw [e] at h
  exact h
/-- Casts of the call's own. -/
def QRow (W : World) (B : Nat) (v : Value) (l : List Qd) : Prop := W.ownsRow B 95 4 v l.length (qcv l)
theorem castInfo : (Tryd.prog.info? 95).map (fun i => (i.zero, i.size, i.bytes)) = some (some (.agg #[.int .i64 0, .int .i64 0, .int .i64 0, .int .i64 0]), 4, 32) := by kernel_rfl
/-- The casts of such a row lie in memory. -/
theorem QRow.in {W : World} {B : Nat} {v : Value} {l : List Qd} (hr : QRow W B v l) : ∃ a cap, v = .slice a l.length cap ∧ CAt W a l.length (fun i => (l.getD i (0, 0, 0, 0)).1) (fun i => (l.getD i (0, 0, 0, 0)).2.1) (fun i => (l.getD i (0, 0, 0, 0)).2.2.1) (fun i => (l.getD i (0, 0, 0, 0)).2.2.2) := by
  have hr' : W.ownsRow B 95 4 v l.length (qcv l) := hr
  obtain ⟨a, cap, rfl⟩ := ownsR_shape hr'
  refine ⟨a, cap, rfl, fun i hi => ?_⟩
  obtain ⟨g, c, e⟩ := Go.Joins.ownsRow_form hr' (by omega)
  cases e
  have hg := qcv_get hi
  have e0 : l.getD i (0, 0, 0, 0) = l[i] := by simp [hi]
  simp only [e0]
  refine ⟨g, 0, rfl, (hr'.lt g rfl).2, ?_, ?_, ?_, ?_⟩
  · rw [Nat.zero_add, hr'.cellAt _ (by omega)]; exact hg.1
  · rw [Nat.zero_add, hr'.cellAt _ (by omega)]; exact hg.2.1
  · rw [Nat.zero_add, hr'.cellAt _ (by omega)]; exact hg.2.2.1
  · rw [Nat.zero_add, hr'.cellAt _ (by omega)]; exact hg.2.2.2
set_option maxRecDepth 100000 in
set_option maxHeartbeats 2000000 in
theorem goesOn_any (q x : Qd) (w : World) :
    Calls Tryd.prog 72 #[.agg #[.int .i64 q.1, .int .i64 q.2.1, .int .i64 q.2.2.1, .int .i64 q.2.2.2], .agg #[.int .i64 x.1, .int .i64 x.2.1, .int .i64 x.2.2.1, .int .i64 x.2.2.2]] w fun e w' => e = .returned (.bool (decide (OnQ q x))) ∧ Below w.heap.size w w' := by
  obtain ⟨q0, q1, q2, q3⟩ := q
  obtain ⟨x0, x1, x2, x3⟩ := x
  dsimp only
  by_cases h1 : q1 = x0
  · by_cases h2 : q2 = x2
    · by_cases h3 : q3 = x3
      · have e : decide (OnQ (q0, q1, q2, q3) (x0, x1, x2, x3)) = true := decide_eq_true ⟨h1, h2, h3⟩
        rw [e]
        subst h1 h2 h3
        clear e
        go_enter Tryd.func72, Tryd.ntmps72
        go_wp2
        go_ret
        exact ⟨rfl, by (repeat' (first | (with_reducible exact Below.refl _ _) | (with_reducible assumption) | (with_reducible refine Below.alloc ?_ ?_ _) | (with_reducible refine Below.drew ?_) | (with_reducible refine below_drewN ?_ _) | (with_reducible refine Below.setCell ?_ ?_ _) | (with_reducible refine below_after ?_ ?_ _) | (with_reducible refine below_set ?_) | (with_reducible refine After.size_le _ ?_) | (with_reducible refine size_alloc_le ?_) | (with_reducible refine size_set_le ?_) | (with_reducible refine size_drewN_le ?_) | go_size))⟩
      · have e : decide (OnQ (q0, q1, q2, q3) (x0, x1, x2, x3)) = false := decide_eq_false fun h => h3 h.2.2
        rw [e]
        subst h1 h2
        have b3 : (q3 == x3) = false := beq_eq_false_iff_ne.2 h3
        clear e h3
        go_enter Tryd.func72, Tryd.ntmps72
        go_wp2
        go_ret
        exact ⟨rfl, by (repeat' (first | (with_reducible exact Below.refl _ _) | (with_reducible assumption) | (with_reducible refine Below.alloc ?_ ?_ _) | (with_reducible refine Below.drew ?_) | (with_reducible refine below_drewN ?_ _) | (with_reducible refine Below.setCell ?_ ?_ _) | (with_reducible refine below_after ?_ ?_ _) | (with_reducible refine below_set ?_) | (with_reducible refine After.size_le _ ?_) | (with_reducible refine size_alloc_le ?_) | (with_reducible refine size_set_le ?_) | (with_reducible refine size_drewN_le ?_) | go_size))⟩
    · have e : decide (OnQ (q0, q1, q2, q3) (x0, x1, x2, x3)) = false := decide_eq_false fun h => h2 h.2.1
      rw [e]
      subst h1
      have b2 : (q2 == x2) = false := beq_eq_false_iff_ne.2 h2
      clear e h2
      go_enter Tryd.func72, Tryd.ntmps72
      go_wp2
      go_ret
      exact ⟨rfl, by (repeat' (first | (with_reducible exact Below.refl _ _) | (with_reducible assumption) | (with_reducible refine Below.alloc ?_ ?_ _) | (with_reducible refine Below.drew ?_) | (with_reducible refine below_drewN ?_ _) | (with_reducible refine Below.setCell ?_ ?_ _) | (with_reducible refine below_after ?_ ?_ _) | (with_reducible refine below_set ?_) | (with_reducible refine After.size_le _ ?_) | (with_reducible refine size_alloc_le ?_) | (with_reducible refine size_set_le ?_) | (with_reducible refine size_drewN_le ?_) | go_size))⟩
  · have e : decide (OnQ (q0, q1, q2, q3) (x0, x1, x2, x3)) = false := decide_eq_false fun h => h1 h.1
    rw [e]
    have b1 : (q1 == x0) = false := beq_eq_false_iff_ne.2 h1
    clear e h1
    go_enter Tryd.func72, Tryd.ntmps72
    go_wp2
    go_ret
    exact ⟨rfl, by (repeat' (first | (with_reducible exact Below.refl _ _) | (with_reducible assumption) | (with_reducible refine Below.alloc ?_ ?_ _) | (with_reducible refine Below.drew ?_) | (with_reducible refine below_drewN ?_ _) | (with_reducible refine Below.setCell ?_ ?_ _) | (with_reducible refine below_after ?_ ?_ _) | (with_reducible refine below_set ?_) | (with_reducible refine After.size_le _ ?_) | (with_reducible refine size_alloc_le ?_) | (with_reducible refine size_set_le ?_) | (with_reducible refine size_drewN_le ?_) | go_size))⟩
set_option maxRecDepth 100000 in
set_option maxHeartbeats 4000000 in
theorem merged_say (a : Option Addr) (n cap : Nat) (fr to lo hi : Nat → Int) (w : World) (hA : CAt w a n fr to lo hi) (hn : n ≤ 9223372036854775807) :
    Calls Tryd.prog 44 #[.slice a n cap] w fun e w' => (∃ v, e = .returned (.tuple #[v, .int .i64 (mgE n fr to lo hi)]) ∧ QRow w' w.heap.size v (mgA n fr to lo hi)) ∧ Below w.heap.size w w' := by
  have HV := Lib.hid (validCasts_any a n cap fr to lo hi w hA hn)
  have HA := Lib.hid hA
  unfold mgE mgA QRow
  cases hk : decide (GoodCs n fr to lo hi)
  · rw [hk] at HV
    go_enter Tryd.func44, Tryd.ntmps44
    go_wp2_with fail
    refine calls_after HV.out ?_
    intro x1
    go_wp2
    go_returns
    exact ⟨⟨_, rfl, World.ownsRow_nil _ _ _ _⟩, by (repeat' (first | (with_reducible exact Below.refl _ _) | (with_reducible assumption) | (with_reducible refine Below.alloc ?_ ?_ _) | (with_reducible refine Below.drew ?_) | (with_reducible refine below_drewN ?_ _) | (with_reducible refine Below.setCell ?_ ?_ _) | (with_reducible refine below_after ?_ ?_ _) | (with_reducible refine below_set ?_) | (with_reducible refine After.size_le _ ?_) | (with_reducible refine size_alloc_le ?_) | (with_reducible refine size_set_le ?_) | (with_reducible refine size_drewN_le ?_) | go_size))⟩
  · rw [hk] at HV
    obtain ⟨hcs, hn200⟩ := of_decide_eq_true hk
    have hnI : (n : Int) ≤ 200 := by omega
    obtain ⟨i0, hi', hz0, hz1, hz2⟩ := info_parts castInfo
    have HGo := Lib.hid goesOn_any
    clear hA hcs
    go_enter Tryd.func44, Tryd.ntmps44
    go_wp2_with fail
    refine calls_after HV.out ?_
    intro x1
    go_wp2
    go_loopw [4, 13] (fun v i wr => ∃ k : Nat, k ≤ n ∧ i = .int .i64 k ∧ ∃ x : After w, wr = x.w ∧ Hid (x.w.ownsRow w.heap.size 95 4 v (mgL fr to lo hi k).length (qcv (mgL fr to lo hi k)))) (fun _ i _ => n - (intOf i).toNat)
    case atStart => exact ⟨0, by omega, rfl, x1, rfl, Lib.hid (World.ownsRow_nil _ _ _ _)⟩
    case round =>
      obtain ⟨k, hkn, rfl, x, rfl, HO0⟩ := hrel
      by_cases hlt : k < n
      · obtain ⟨b, off, rfl, hb, c0, c1, c2, c3⟩ := HA.out k hlt
        have hkI : (k : Int) < (n : Int) := by omega
        have hle := mgL_len (fr := fr) (to := to) (lo := lo) (hi := hi) k
        have hfs : mgL fr to lo hi (k + 1) = addM (mgL fr to lo hi k) (fr k, to k, lo k, hi k) := rfl
        have hbx : b < x.w.heap.size := Nat.lt_of_lt_of_le hb x.out.size
        have d0 := (x.out.cell (p := ⟨b, off + k * 4, none⟩) hb).trans c0
        have d1 := (x.out.cell (p := ⟨b, off + k * 4 + 1, none⟩) hb).trans c1
        have d2 := (x.out.cell (p := ⟨b, off + k * 4 + 2, none⟩) hb).trans c2
        have d3 := (x.out.cell (p := ⟨b, off + k * 4 + 3, none⟩) hb).trans c3
        generalize fr k = x0 at *
        generalize to k = x1' at *
        generalize lo k = x2 at *
        generalize hi k = x3 at *
        obtain ⟨z, hz⟩ : ∃ z : After w, x.w.alloc (.cells #[.int .i64 x0, .int .i64 x1', .int .i64 x2, .int .i64 x3] 95) = z.w := ⟨⟨_, x.out.alloc x.out.size _⟩, rfl⟩
        have BX : Hid (BxC z.w x.w.heap.size x0 x1' x2 x3) := Lib.hid (by rw [← hz]; exact BxC.new x.w x0 x1' x2 x3)
        have HO : Hid (z.w.ownsRow _ _ _ _ _ _) := Lib.hid (by rw [← hz]; exact HO0.out.alloc _)
        have hsz := z.out.size
        clear HO0
        generalize mgL fr to lo hi k = L at *
        rcases nil_or_snoc L with rfl | ⟨L', ⟨q0, q1, q2, q3⟩, rfl⟩
        · rw [addM_nil] at hfs
          have hfl := Lib.hid hfs
          obtain ⟨e0, e1, e2, e3⟩ := BX.out.cells
          obtain ⟨a0, cap0, rfl⟩ := ownsR_shape HO.out
          have hbz := BX.out.lt
          clear hfs
          go_wp2_with fail
          refine wp_region_after (by kernel_rfl) (by kernel_rfl) ?_; (repeat (first | go_big_quiet_step ((fail)) | (refine wpQuiet_step (fun K hK => ?_); go_simp; first | (refine hK _ ?_; clear hK K) | (apply Exists.intro; refine ⟨fun x => ?_, hK _ ?_⟩; (fail); clear hK K)))); refine wpQuiet_nil ?_
          intro y
          obtain ⟨u, hu⟩ : ∃ u : After w, y.w = u.w := ⟨⟨y.w, z.out.trans (y.out.mono z.out.size)⟩, rfl⟩
          have HO2 : Hid (u.w.ownsRow _ _ _ _ _ _) := Lib.hid (by rw [← hu]; exact ownsR_stay HO.out y.out)
          obtain ⟨e0', e1', e2', e3'⟩ := (BX.out.on y.out).cells
          rw [hu] at e0' e1' e2' e3'
          have hsu := u.out.size
          clear HO BX e0 e1 e2 e3
          go_wp2_with (at_builtin; refine wpList_append_own _ rfl _ _ 56 rfl w.heap.size 95 i0 (.agg #[.int .i64 0, .int .i64 0, .int .i64 0, .int .i64 0]) 4 32 Tryd.underlying56 hi' hz0 hz1 hz2 rfl (by decide) _ _ _ rfl (HO2.out.alloc _) ⟨u.w.heap.size, 0, none⟩ 1 1 [.int .i64 x0, .int .i64 x1', .int .i64 x2, .int .i64 x3] rfl rfl (World.news_of_block (cs := #[.int .i64 x0, .int .i64 x1', .int .i64 x2, .int .i64 x3]) (t := 95) (fr := (0, 0)) (heap_alloc_new u.w _)) (by simp [Value.oneCell']) (by unfold maxLen; omega) (by omega) (by simp; omega) ?_; intro v' w1 hown' hgrow _)
          go_roundw
          case rel => exact ⟨k + 1, by omega, by go_num, ⟨w1, (u.out.alloc hsu _).grown hgrow (by simp; omega) (fun j e => (HO2.out.lt j e).1)⟩, rfl, Lib.hid (by rw [hfl.out]; first | (simpa [qcv] using hown') | (rw [qcv_snoc]; simpa using hown'))⟩
          case measure => simp [intOf]; omega
        · have hlen : (L' ++ [(q0, q1, q2, q3)]).length = L'.length + 1 := by simp
          rw [hlen] at HO hle
          have hpos : (0 : Int) < ((L'.length + 1 : Nat) : Int) := by omega
          obtain ⟨g, cap', rfl⟩ := Go.Joins.ownsRow_form HO.out (by omega)
          obtain ⟨r0, r1, r2, r3⟩ := qcv_at L' (q0, q1, q2, q3)
          have f0 := HO.out.cellAt (L'.length * 4) (by omega)
          have f1 := HO.out.cellAt (L'.length * 4 + 1) (by omega)
          have f2 := HO.out.cellAt (L'.length * 4 + 2) (by omega)
          have f3 := HO.out.cellAt (L'.length * 4 + 3) (by omega)
          rw [r0] at f0
          rw [r1] at f1
          rw [r2] at f2
          rw [r3] at f3
          dsimp only at f0 f1 f2 f3
          have hg := (HO.out.lt g rfl).2
          have hfz := HO.out.frozenAt (L'.length * 4 + 1)
          obtain ⟨e0, e1, e2, e3⟩ := BX.out.cells
          have hbz := BX.out.lt
          have HK := Lib.hid (fun W => HGo.out (q0, q1, q2, q3) (x0, x1', x2, x3) W)
          rw [addM_last] at hfs
          clear r0 r1 r2 r3 HGo
          cases hz' : decide (OnQ (q0, q1, q2, q3) (x0, x1', x2, x3))
          · rw [hz'] at HK
            rw [if_neg (of_decide_eq_false hz')] at hfs
            have hfl := Lib.hid hfs
            clear hz' hfs
            go_wp2_with fail
            refine wp_region_after (by kernel_rfl) (by kernel_rfl) ?_; (repeat (first | go_big_quiet_step ((go_at_call 72; exact quiet_after (HK.out _))) | (refine wpQuiet_step (fun K hK => ?_); go_simp; first | (refine hK _ ?_; clear hK K) | (apply Exists.intro; refine ⟨fun x => ?_, hK _ ?_⟩; (go_at_call 72; exact quiet_after (HK.out _)); clear hK K)))); refine wpQuiet_nil ?_
            intro y
            obtain ⟨u, hu⟩ : ∃ u : After w, y.w = u.w := ⟨⟨y.w, z.out.trans (y.out.mono z.out.size)⟩, rfl⟩
            have HO2 : Hid (u.w.ownsRow _ _ _ _ _ _) := Lib.hid (by rw [← hu]; exact ownsR_stay HO.out y.out)
            obtain ⟨e0', e1', e2', e3'⟩ := (BX.out.on y.out).cells
            rw [hu] at e0' e1' e2' e3'
            have hsu := u.out.size
            clear HO BX e0 e1 e2 e3 f0 f1 f2 f3
            go_wp2_with (at_builtin; refine wpList_append_own _ rfl _ _ 56 rfl w.heap.size 95 i0 (.agg #[.int .i64 0, .int .i64 0, .int .i64 0, .int .i64 0]) 4 32 Tryd.underlying56 hi' hz0 hz1 hz2 rfl (by decide) _ _ _ rfl (HO2.out.alloc _) ⟨u.w.heap.size, 0, none⟩ 1 1 [.int .i64 x0, .int .i64 x1', .int .i64 x2, .int .i64 x3] rfl rfl (World.news_of_block (cs := #[.int .i64 x0, .int .i64 x1', .int .i64 x2, .int .i64 x3]) (t := 95) (fr := (0, 0)) (heap_alloc_new u.w _)) (by simp [Value.oneCell']) (by unfold maxLen; omega) (by omega) (by simp; omega) ?_; intro v' w1 hown' hgrow _)
            go_roundw
            case rel => exact ⟨k + 1, by omega, by go_num, ⟨w1, (u.out.alloc hsu _).grown hgrow (by simp; omega) (fun j e => (HO2.out.lt j e).1)⟩, rfl, Lib.hid (by rw [hfl.out]; first | (simpa [qcv] using hown') | (rw [qcv_snoc]; simpa using hown'))⟩
            case measure => simp [intOf]; omega
          · rw [hz'] at HK
            rw [if_pos (of_decide_eq_true hz')] at hfs
            have hfl := Lib.hid hfs
            clear hz' hfs
            go_wp2_with fail
            refine wp_region_after (by kernel_rfl) (by kernel_rfl) ?_; (repeat (first | go_big_quiet_step ((go_at_call 72; exact quiet_after (HK.out _))) | (refine wpQuiet_step (fun K hK => ?_); go_simp; first | (refine hK _ ?_; clear hK K) | (apply Exists.intro; refine ⟨fun x => ?_, hK _ ?_⟩; (go_at_call 72; exact quiet_after (HK.out _)); clear hK K)))); refine wpQuiet_nil ?_
            intro y
            obtain ⟨u, hu⟩ : ∃ u : After w, y.w = u.w := ⟨⟨y.w, z.out.trans (y.out.mono z.out.size)⟩, rfl⟩
            have HO2 : Hid (u.w.ownsRow _ _ _ _ _ _) := Lib.hid (by rw [← hu]; exact ownsR_stay HO.out y.out)
            obtain ⟨e0', e1', e2', e3'⟩ := (BX.out.on y.out).cells
            rw [hu] at e0' e1' e2' e3'
            have f1' := HO2.out.cellAt (L'.length * 4 + 1) (by omega)
            rw [(qcv_at L' (q0, q1, q2, q3)).2.1] at f1'
            have fz' := HO2.out.frozenAt (L'.length * 4 + 1)
            have hst := Lib.hid (HO2.out.stored (L'.length * 4 + 1) (.int .i64 x1')).1
            rw [qcv_last] at hst
            have hgw := (HO2.out.lt g rfl).1
            clear HO BX e0 e1 e2 e3 f0 f1 f2 f3 hfz
            go_wp2
            go_roundw
            case rel => exact ⟨k + 1, by omega, by go_num, ⟨_, u.out.setCell (by dsimp only; omega) _⟩, rfl, Lib.hid (by rw [hfl.out]; simpa using hst.out)⟩
            case measure => simp [intOf]; omega
      · obtain rfl : k = n := by omega
        obtain ⟨a0, cap0, rfl⟩ := ownsR_shape HO0.out
        go_wp2
        go_returns
        exact ⟨⟨_, rfl, HO0.out⟩, x.out⟩
end Go.Proofs.YtlnlgboeohfpdaaDoor
