/- WindBounds: the law's walk. -/
import Derived.Test.YtfmoedlnjlkiiaaDoorWbh
import Derived.Test.YtfmoedlnjlkiiaaDoorLawWco
import Derived.Laws.AppendOwnNone
namespace Go.Proofs.YtfmoedlnjlkiiaaDoor
open Go.RowKit
attribute [local go_sem] After.cell After.frozen After.lt After.le After.ne After.ne' After.set_eq After.size_set After.lt_add

theorem IRow.inb {W : World} {B : Nat} {v : Value} {n : Nat} {h : Nat → Int} (hr : IRow W B v n h) : ∃ a cap, v = .slice a n cap ∧ IAt W a n h := by
  obtain ⟨a, cap, rfl⟩ := ownsR_shape hr
  refine ⟨a, cap, rfl, fun i hi => ?_⟩
  obtain ⟨g, c, e⟩ := Go.Joins.ownsRow_form hr (by omega)
  cases e
  refine ⟨g, 0, rfl, (hr.lt g rfl).2, ?_⟩
  have h' : W.ownsRow B 3 1 (.slice (some ⟨g, 0, none⟩) n cap) n (rxs h n) := hr
  rw [Nat.zero_add, h'.cellAt _ (by omega)]
  exact rxs_get hi
theorem rxs_set {h : Nat → Int} {n k : Nat} (hk : k < n) (y : Int) : (rxs h n).set k (.int .i64 y) = rxs (fun i => if i = k then y else h i) n := by
  apply List.ext_getElem?
  intro i
  rw [List.getElem?_set]
  by_cases hi : i < n
  · rw [rxs_get hi, rxs_get hi]
    by_cases e : k = i
    · subst e
      rw [if_pos rfl, if_pos (by rw [rxs_len]; exact hk), if_pos rfl]
    · rw [if_neg e, if_neg (fun h => e h.symm)]
  · rw [List.getElem?_eq_none (by rw [rxs_len]; omega : (rxs h n).length ≤ i), List.getElem?_eq_none (by rw [rxs_len]; omega), if_neg (by omega)]
/-- 'append(own empty, l...)' for any slice of numbers. -/
theorem append_ins {P : Program} {w : World} {ops : Array Oper} {rest : List Oper} {o : Oper} {a : Act} {Q : Exit → Act → World → Prop} (hgd : o.guard = none) (s x : Operand) (t : TypeId)
    (ho : o.op = .call { callee := .builtin .append, args := #[s, x], argTypes := #[t, t] })
    (base : Nat) (e : TypeId) (i : TypeInfo) (z : Value) (ht : P.underlying t = some (.slice e)) (hi : P.info? e = some i) (hz : i.zero = some z)
    (hsize : i.size = 1) (hby : i.bytes = 8) (hzs : z.cells.size = 1) (vl : Value) (hs : a.eval s = vl) (hown : w.ownsRow base e 1 vl 0 []) (ad : Option Addr) (n cap : Nat) (f : Nat → Int) (hx : a.eval x = .slice ad n cap) (hA : IAt w ad n f) (h0 : ad = none → n = 0 ∧ cap = 0) (hn : n ≤ 3000) (hbase : base ≤ w.heap.size)
    (h : ∀ v' w', w'.ownsRow base e 1 v' n (rxs f n) → w.grownBy w' vl.ownBlock → wpList P ops Q rest (a.put o.dst v') w') : wpList P ops Q (o :: rest) a w := by
  cases ad with
  | none =>
    obtain ⟨rfl, rfl⟩ := h0 rfl
    exact wpList_append_own_none hgd s x t ho base e i 1 ht hi vl _ _ hs hown hx (h vl w (by simpa [rxs] using hown) ⟨rfl, rfl, rfl, Nat.le_refl _, fun _ _ _ => rfl⟩)
  | some p =>
    refine wpList_append_own w hgd s x t ho base e i z 1 8 ht hi hz hsize hby hzs (by omega) vl _ _ hs hown p n cap (rxs f n) hx (by rw [rxs_len]; omega) (fun j u hu => ?_) (rxs_one f n) (by unfold maxLen; omega) (by omega) hbase (fun v' w' h3 h4 _ => h v' w' (by simpa using h3) h4)
    have hj : j < n := by
      have := (List.getElem?_eq_some_iff.1 hu).1
      rwa [rxs_len] at this
    obtain ⟨b, off, e', _, h2⟩ := hA j hj
    cases e'
    rw [rxs_get hj] at hu
    rw [show (⟨b, off, none⟩ : Addr).add j = ⟨b, off + j, none⟩ by simp [Addr.add], h2, hu]
theorem cN_all {xs : List Nat} {n : Nat} (h : ∀ k ∈ xs, k < n) : cN xs 0 n = xs.length := by
  unfold cN
  rw [List.filter_eq_self.2]
  intro k hk
  have := h k hk
  simp [Btw]
  omega
theorem can_within {s g c : Int} {n : Nat} {f h : Nat → Int} (hk : AskB s g c n f = true) (hc : ∀ i, i < n → Can (f i) (h i)) {p1 p2 : Int} (hR : Rep (AllS s g c f n) (some (p1, p2))) :
    miE s g c n h 0 n = 0 ∧ p1 ≤ (miN s g c n h 0 n : Nat) ∧ ((miN s g c n h 0 n : Nat) : Int) ≤ p2 := by
  obtain ⟨⟨hn, hg⟩, hr⟩ := ask_of hk
  have hG : GoodG n h := ⟨hn, fun i hi => by
    have a := hg i hi
    have b := hc i hi
    unfold Can at b
    unfold OkG Btw at *
    split at b <;> omega⟩
  have hk' : AskB s g c n h = true := by unfold AskB; simp [hG, hr]
  have hw : Wth 0 (n : Int) n := ⟨by omega, by omega, by omega⟩
  unfold miE miN
  rw [hk', if_pos rfl, if_pos hw, decide_eq_true hw]
  rw [show (true && true) = true from rfl, if_pos rfl, cN_all fun k hk => (fl_lt hk).1]
  exact ⟨rfl, hR.2.2 _ ⟨_, ss_of n hc⟩⟩
theorem rbounds_any (s g c : Int) (a : Option Addr) (n cap : Nat) (f : Nat → Int) (w : World) (hA : IAt w a n f) (hn : n ≤ 9223372036854775807) :
    Calls Tryd.prog 28 #[.agg #[.int .i64 s, .int .i64 g, .int .i64 c], .slice a n cap] w fun e w' => PBn (AskB s g c n f) (AllS s g c f n) e ∧ Below w.heap.size w w' := by
  cases hk : AskB s g c n f
  · rw [← hk]; exact rbounds_bad s g c a n cap f w hA hn hk
  · rw [← hk]; exact rbounds_good s g c a n cap f w hA hn hk
set_option maxRecDepth 100000 in
set_option maxHeartbeats 4000000 in
theorem windBounds_any (s g c : Int) (a : Option Addr) (n cap : Nat) (f : Nat → Int) (a2 : Option Addr) (n2 cap2 : Nat) (f2 : Nat → Int) (w : World) (hA : IAt w a n f) (hA2 : IAt w a2 n2 f2) (hcap : n ≤ 9223372036854775807) (h0 : a = none → n = 0 ∧ cap = 0) (hS : Stw w) :
    Calls Tryd.prog 6 #[.agg #[.int .i64 s, .int .i64 g, .int .i64 c], .slice a n cap, .slice a2 n2 cap2] w fun e w' => e = .returned (.bool true) ∧ Below w.heap.size w w' := by
  have HAw := Lib.hid (fun W (hW : Below w.heap.size w W) => awake_any W (hS.on hW))
  have HM := Lib.hid (fun W => many_any a n cap W)
  have HP := Lib.hid (fun W (hW : Below w.heap.size w W) => bounds_say s g c a n cap f W (hA.on hW))
  have HR := Lib.hid (fun W (hW : Below w.heap.size w W) => rbounds_any s g c a n cap f W (hA.on hW) hcap)
  have HA := Lib.hid hA
  have HA2 := Lib.hid hA2
  have H0 := Lib.hid h0
  clear hA hA2 hS h0
  generalize decide (Many n) = mb at *
  cases mb
  case true =>
    clear HP HR
    go_enter Tryd.func6, Tryd.ntmps6
    go_wp2_with fail
    refine calls_after (HAw.out _ (by (repeat' (first | (with_reducible exact Below.refl _ _) | (with_reducible assumption) | (with_reducible refine Below.alloc ?_ ?_ _) | (with_reducible refine Below.drew ?_) | (with_reducible refine below_drewN ?_ _) | (with_reducible refine Below.setCell ?_ ?_ _) | (with_reducible refine below_after ?_ ?_ _) | (with_reducible refine below_set ?_) | (with_reducible refine After.size_le _ ?_) | (with_reducible refine size_alloc_le ?_) | (with_reducible refine size_set_le ?_) | (with_reducible refine size_drewN_le ?_) | go_size)))) ?_
    intro x1
    go_wp2_with fail
    refine (HM.out _).mono ?_
    rintro e w1 ⟨rfl, rfl⟩
    go_wp2
    go_ret
    exact ⟨rfl, by (repeat' (first | (with_reducible exact Below.refl _ _) | (with_reducible assumption) | (with_reducible refine Below.alloc ?_ ?_ _) | (with_reducible refine Below.drew ?_) | (with_reducible refine below_drewN ?_ _) | (with_reducible refine Below.setCell ?_ ?_ _) | (with_reducible refine below_after ?_ ?_ _) | (with_reducible refine below_set ?_) | (with_reducible refine After.size_le _ ?_) | (with_reducible refine size_alloc_le ?_) | (with_reducible refine size_set_le ?_) | (with_reducible refine size_drewN_le ?_) | go_size))⟩
  case false =>
    by_cases h4 : (400 : Int) < n2
    · clear HP HR
      go_enter Tryd.func6, Tryd.ntmps6
      go_wp2_with fail
      refine calls_after (HAw.out _ (by (repeat' (first | (with_reducible exact Below.refl _ _) | (with_reducible assumption) | (with_reducible refine Below.alloc ?_ ?_ _) | (with_reducible refine Below.drew ?_) | (with_reducible refine below_drewN ?_ _) | (with_reducible refine Below.setCell ?_ ?_ _) | (with_reducible refine below_after ?_ ?_ _) | (with_reducible refine below_set ?_) | (with_reducible refine After.size_le _ ?_) | (with_reducible refine size_alloc_le ?_) | (with_reducible refine size_set_le ?_) | (with_reducible refine size_drewN_le ?_) | go_size)))) ?_
      intro x1
      go_wp2_with fail
      refine (HM.out _).mono ?_
      rintro e w1 ⟨rfl, rfl⟩
      go_wp2
      go_ret
      exact ⟨rfl, by (repeat' (first | (with_reducible exact Below.refl _ _) | (with_reducible assumption) | (with_reducible refine Below.alloc ?_ ?_ _) | (with_reducible refine Below.drew ?_) | (with_reducible refine below_drewN ?_ _) | (with_reducible refine Below.setCell ?_ ?_ _) | (with_reducible refine below_after ?_ ?_ _) | (with_reducible refine below_set ?_) | (with_reducible refine After.size_le _ ?_) | (with_reducible refine size_alloc_le ?_) | (with_reducible refine size_set_le ?_) | (with_reducible refine size_drewN_le ?_) | go_size))⟩
    · cases hk : AskB s g c n f
      · rw [hk] at HP HR
        unfold PBn at HP HR
        dsimp only at HP HR
        clear hk
        go_enter Tryd.func6, Tryd.ntmps6
        go_wp2_with fail
        refine calls_after (HAw.out _ (by (repeat' (first | (with_reducible exact Below.refl _ _) | (with_reducible assumption) | (with_reducible refine Below.alloc ?_ ?_ _) | (with_reducible refine Below.drew ?_) | (with_reducible refine below_drewN ?_ _) | (with_reducible refine Below.setCell ?_ ?_ _) | (with_reducible refine below_after ?_ ?_ _) | (with_reducible refine below_set ?_) | (with_reducible refine After.size_le _ ?_) | (with_reducible refine size_alloc_le ?_) | (with_reducible refine size_set_le ?_) | (with_reducible refine size_drewN_le ?_) | go_size)))) ?_
        intro x1
        go_wp2_with fail
        refine (HM.out _).mono ?_
        rintro e w1 ⟨rfl, rfl⟩
        go_wp2_with fail
        refine calls_after2 (HP.out _ (by (repeat' (first | (with_reducible exact Below.refl _ _) | (with_reducible assumption) | (with_reducible refine Below.alloc ?_ ?_ _) | (with_reducible refine Below.drew ?_) | (with_reducible refine below_drewN ?_ _) | (with_reducible refine Below.setCell ?_ ?_ _) | (with_reducible refine below_after ?_ ?_ _) | (with_reducible refine below_set ?_) | (with_reducible refine After.size_le _ ?_) | (with_reducible refine size_alloc_le ?_) | (with_reducible refine size_set_le ?_) | (with_reducible refine size_drewN_le ?_) | go_size)))) ?_
        intro x2
        go_wp2_with fail
        refine calls_after2 (HR.out _ (by (repeat' (first | (with_reducible exact Below.refl _ _) | (with_reducible assumption) | (with_reducible refine Below.alloc ?_ ?_ _) | (with_reducible refine Below.drew ?_) | (with_reducible refine below_drewN ?_ _) | (with_reducible refine Below.setCell ?_ ?_ _) | (with_reducible refine below_after ?_ ?_ _) | (with_reducible refine below_set ?_) | (with_reducible refine After.size_le _ ?_) | (with_reducible refine size_alloc_le ?_) | (with_reducible refine size_set_le ?_) | (with_reducible refine size_drewN_le ?_) | go_size)))) ?_
        intro x3
        go_wp2
        go_ret
        exact ⟨rfl, by (repeat' (first | (with_reducible exact Below.refl _ _) | (with_reducible assumption) | (with_reducible refine Below.alloc ?_ ?_ _) | (with_reducible refine Below.drew ?_) | (with_reducible refine below_drewN ?_ _) | (with_reducible refine Below.setCell ?_ ?_ _) | (with_reducible refine below_after ?_ ?_ _) | (with_reducible refine below_set ?_) | (with_reducible refine After.size_le _ ?_) | (with_reducible refine size_alloc_le ?_) | (with_reducible refine size_set_le ?_) | (with_reducible refine size_drewN_le ?_) | go_size))⟩
      · rw [hk] at HP HR
        unfold PBn at HP HR
        dsimp only at HP HR
        have HK := Lib.hid hk
        clear hk
        obtain ⟨i0, hi, hz0, hz1, hz2⟩ := info_parts intInfow
        have hn2000 : n ≤ 2000 := (ask_of HK.out).1.1
        go_enter Tryd.func6, Tryd.ntmps6
        go_wp2_with fail
        refine calls_after (HAw.out _ (by (repeat' (first | (with_reducible exact Below.refl _ _) | (with_reducible assumption) | (with_reducible refine Below.alloc ?_ ?_ _) | (with_reducible refine Below.drew ?_) | (with_reducible refine below_drewN ?_ _) | (with_reducible refine Below.setCell ?_ ?_ _) | (with_reducible refine below_after ?_ ?_ _) | (with_reducible refine below_set ?_) | (with_reducible refine After.size_le _ ?_) | (with_reducible refine size_alloc_le ?_) | (with_reducible refine size_set_le ?_) | (with_reducible refine size_drewN_le ?_) | go_size)))) ?_
        intro x1
        go_wp2_with fail
        refine (HM.out _).mono ?_
        rintro e w1 ⟨rfl, rfl⟩
        go_wp2_with fail
        refine (HP.out _ (by (repeat' (first | (with_reducible exact Below.refl _ _) | (with_reducible assumption) | (with_reducible refine Below.alloc ?_ ?_ _) | (with_reducible refine Below.drew ?_) | (with_reducible refine below_drewN ?_ _) | (with_reducible refine Below.setCell ?_ ?_ _) | (with_reducible refine below_after ?_ ?_ _) | (with_reducible refine below_set ?_) | (with_reducible refine After.size_le _ ?_) | (with_reducible refine size_alloc_le ?_) | (with_reducible refine size_set_le ?_) | (with_reducible refine size_drewN_le ?_) | go_size)))).mono ?_
        rintro e w2 ⟨⟨p1, p2, rfl, hR⟩, hb2⟩
        have HRe := Lib.hid hR
        obtain ⟨x2, rfl⟩ := after_ofw (x1.out.trans (hb2.mono x1.out.size))
        clear hR hb2 HP
        go_wp2_with fail
        refine (HR.out _ (by (repeat' (first | (with_reducible exact Below.refl _ _) | (with_reducible assumption) | (with_reducible refine Below.alloc ?_ ?_ _) | (with_reducible refine Below.drew ?_) | (with_reducible refine below_drewN ?_ _) | (with_reducible refine Below.setCell ?_ ?_ _) | (with_reducible refine below_after ?_ ?_ _) | (with_reducible refine below_set ?_) | (with_reducible refine After.size_le _ ?_) | (with_reducible refine size_alloc_le ?_) | (with_reducible refine size_set_le ?_) | (with_reducible refine size_drewN_le ?_) | go_size)))).mono ?_
        rintro e w3 ⟨⟨q1, q2, rfl, hR2⟩, hb3⟩
        have heq := rep_same hR2 HRe.out
        cases heq
        have hB3 : Below w.heap.size w w3 := by
          have h : Below w.heap.size w x2.w := by (repeat' (first | (with_reducible exact Below.refl _ _) | (with_reducible assumption) | (with_reducible refine Below.alloc ?_ ?_ _) | (with_reducible refine Below.drew ?_) | (with_reducible refine below_drewN ?_ _) | (with_reducible refine Below.setCell ?_ ?_ _) | (with_reducible refine below_after ?_ ?_ _) | (with_reducible refine below_set ?_) | (with_reducible refine After.size_le _ ?_) | (with_reducible refine size_alloc_le ?_) | (with_reducible refine size_set_le ?_) | (with_reducible refine size_drewN_le ?_) | go_size))
          exact h.trans (hb3.mono h.size)
        obtain ⟨x3, rfl⟩ := after_ofw (x2.out.trans (hb3.mono x2.out.size))
        have r0 : x3.w.cell? ⟨w.heap.size, 0, none⟩ = some (.int .i64 s) := (x3.cell _ (by simp)).trans (by simp [go_sem])
        have r1 : x3.w.cell? ⟨w.heap.size, 1, none⟩ = some (.int .i64 g) := (x3.cell _ (by simp)).trans (by simp [go_sem])
        have r2 : x3.w.cell? ⟨w.heap.size, 2, none⟩ = some (.int .i64 c) := (x3.cell _ (by simp)).trans (by simp [go_sem])
        have hrl : w.heap.size < x3.w.heap.size := by have := x3.out.size; simp at this; omega
        have hBw := Lib.hid hB3
        clear hB3 hb3 hR2 HR HAw HM
        generalize x3.w = X at *
        have HAx := Lib.hid (HA.out.on (hBw.out.alloc hBw.out.size (.cells #[] 3)))
        go_wp2_with (at_builtin; refine append_ins rfl _ _ 24 rfl X.heap.size 3 i0 (.int .i64 0) Tryd.underlying24 hi hz0 hz1 hz2 rfl _ rfl (World.ownsRow_lit X #[] 0 (Nat.le_refl _) (by unfold maxLen; omega) rfl) a n cap f rfl HAx.out H0.out (by omega) (by simp) ?_; intro v' w1 hown' hgrow)
        have hb1 : Below X.heap.size X w1 := ((Below.refl X.heap.size X).alloc (Nat.le_refl _) (.cells #[] 3)).grown hgrow (by simp) (fun j e => by cases e; exact Nat.le_refl _)
        obtain ⟨x4, rfl⟩ := after_ofw hb1
        have hO0 := Lib.hid (show IRow x4.w X.heap.size v' n f from hown')
        clear hown' hgrow hb1 HAx
        go_wp2
        go_loopw [14, 15] (fun kq i W => ∃ i' q : Nat, i' ≤ n ∧ q ≤ n2 ∧ q ≤ i' ∧ i = .int .i64 i' ∧ kq = .int .i64 q ∧ ∃ x : After X, W = x.w ∧ ∃ h : Nat → Int, Hid (IRow x.w X.heap.size v' n h) ∧ Hid (∀ j, j < i' → Can (f j) (h j)) ∧ Hid (∀ j, i' ≤ j → h j = f j)) (fun _ i _ => n - (intOf i).toNat)
        case atStart => exact ⟨0, 0, by omega, by omega, by omega, rfl, rfl, x4, rfl, f, hO0, Lib.hid (fun j hj => by omega), Lib.hid fun j _ => rfl⟩
        case round =>
          obtain ⟨i', q, hin, hq2, hqi, rfl, rfl, x, rfl, h, HO, HC, HE⟩ := hrel
          have hBx := Lib.hid (hBw.out.trans (x.out.mono hBw.out.size))
          by_cases hlt : i' < n
          · have hltI : (i' : Int) < (n : Int) := by omega
            have hiI : (i' : Int) ≤ 2000 := by omega
            have hqI : (q : Int) ≤ 2000 := by omega
            obtain ⟨b, off, rfl, hb, c1⟩ := (HA.out.on hBx.out) i' hlt
            obtain ⟨G, cap', e⟩ := Go.Joins.ownsRow_form HO.out (by omega)
            subst e
            have HO' : Hid (x.w.ownsRow X.heap.size 3 1 (.slice (some ⟨G, 0, none⟩) n cap') n (rxs h n)) := HO
            have hG := HO'.out.lt G rfl
            have fr := HO'.out.frozenAt i'
            have old := HO'.out.cellAt i' (by omega)
            rw [rxs_get hlt] at old
            have Hx := Lib.hid x.out
            have hOK := (ask_of HK.out).1.2 i' hlt
            unfold OkG Btw at hOK
            have HCn : Hid (¬ f i' < 0 → ∀ j, j < i' + 1 → Can (f j) (h j)) := Lib.hid fun hy j hj => by
              by_cases e : j = i'
              · subst e
                rw [HE.out j (Nat.le_refl _)]
                unfold Can
                rw [if_neg (by omega)]
              · exact HC.out j (by omega)
            have HCs : Hid (f i' < 0 → ∀ y : Int, 0 ≤ y → y ≤ 200 → ∀ j, j < i' + 1 → Can (f j) (if j = i' then y else h j)) := Lib.hid fun hy y h0 h1 j hj => by
              by_cases e : j = i'
              · subst e
                rw [if_pos rfl]
                unfold Can
                rw [if_pos (by omega)]
                exact ⟨h0, h1⟩
              · rw [if_neg e]
                exact HC.out j (by omega)
            have HOS : Hid (∀ y : Int, IRow (x.w.setCell ⟨G, i', none⟩ (.int .i64 y)) X.heap.size (.slice (some ⟨G, 0, none⟩) n cap') n (fun j => if j = i' then y else h j)) := Lib.hid fun y => by
              have h1 := (HO'.out.stored i' (.int .i64 y)).1
              rw [rxs_set hlt] at h1
              exact h1
            clear hOK HO'
            generalize x.w = Wx at *
            generalize hfi : f i' = y0 at c1 HCn HCs
            have Hfi := Lib.hid hfi
            clear hfi
            by_cases hy : y0 < 0
            · by_cases hq : q = n2
              · obtain rfl : q = n2 := hq
                go_wp2
                go_returns
                exact ⟨rfl, hBx.out⟩
              · have hql : q < n2 := by omega
                have hqI2 : ¬ (q : Int) = (n2 : Int) := by omega
                have hqI3 : ((q : Int) == (n2 : Int)) = false := by simp; omega
                have hqI4 : (q : Int) < (n2 : Int) := by omega
                obtain ⟨b2, off2, rfl, hb2, c2⟩ := (HA2.out.on hBx.out) q hql
                generalize f2 q = y at *
                clear hq
                by_cases h1 : y < 0
                · go_wp2
                  go_returns
                  exact ⟨rfl, hBx.out⟩
                · by_cases h2 : 200 < y
                  · go_wp2
                    go_returns
                    exact ⟨rfl, hBx.out⟩
                  · go_wp2
                    go_roundw
                    case rel => exact ⟨i' + 1, q + 1, by omega, by omega, by omega, by go_num, by go_num, ⟨_, Hx.out.setCell hG.1 _⟩, rfl, _, Lib.hid (HOS.out y), Lib.hid (HCs.out hy y (by omega) (by omega)), Lib.hid fun j hj => by rw [if_neg (by omega)]; exact HE.out j (by omega)⟩
                    case measure => simp [intOf]; omega
            · go_wp2
              go_roundw
              case rel => exact ⟨i' + 1, q, by omega, by omega, by omega, by go_num, rfl, ⟨_, Hx.out⟩, rfl, h, HO, Lib.hid (HCn.out hy), Lib.hid fun j hj => HE.out j (by omega)⟩
              case measure => simp [intOf]; omega
          · obtain rfl : n = i' := by omega
            obtain ⟨a', cap', e, hI⟩ := IRow.inb HO.out
            subst e
            have hcw := can_within HK.out HC.out HRe.out
            have hMi := fun W (hW : Below x.w.heap.size x.w W) => minutes_say s g c a' n cap' h 0 n W (hI.on hW)
            rw [hcw.1] at hMi
            have HMi := Lib.hid hMi
            have hm1 := hcw.2.1
            have hm2 := hcw.2.2
            have hlt' : ¬ (n : Int) < (n : Int) := by omega
            clear hMi hcw hI
            generalize miN s g c n h 0 n = m at *
            go_wp2_with fail
            refine (HMi.out _ (by (repeat' (first | (with_reducible exact Nat.le_refl _) | (with_reducible exact Below.refl _ _) | (with_reducible assumption) | (with_reducible refine Below.alloc ?_ ?_ _) | (with_reducible refine Below.drew ?_) | (with_reducible refine below_drewN ?_ _) | (with_reducible refine Below.setCell ?_ ?_ _) | (with_reducible refine below_after ?_ ?_ _) | (with_reducible refine below_set ?_) | (with_reducible refine After.size_le _ ?_) | (with_reducible refine size_alloc_le ?_) | (with_reducible refine size_set_le ?_) | (with_reducible refine size_drewN_le ?_) | go_size)))).mono ?_
            rintro e w5 ⟨rfl, hb5⟩
            have HB5 := Lib.hid (hBx.out.trans (hb5.mono hBx.out.size))
            clear hb5
            go_wp2
            go_returns
            exact ⟨rfl, HB5.out⟩
end Go.Proofs.YtfmoedlnjlkiiaaDoor
