/- The reference's Numbers and Listed: their contracts. -/
import Derived.Test.YtccjfmhbmieigaaDoorNumb
namespace Go.Proofs.YtccjfmhbmieigaaDoor
open Go.RowKit
attribute [local go_sem] After.cell After.frozen After.lt After.le After.ne After.ne' After.set_eq After.size_set After.lt_add tx_size tx_toList

theorem after_of' {W W' : World} (h : Below W.heap.size W W') : ∃ y : After W, W' = y.w := ⟨⟨W', h⟩, rfl⟩
/-- A list of texts in memory. -/
def TRow (W : World) (v : Value) (ws : List (List UInt8)) : Prop := ∃ a cap, v = .slice a ws.length cap ∧ (0 < ws.length → ∃ g, a = some ⟨g, 0, none⟩ ∧ g < W.heap.size ∧ ∀ (i : Nat) (x : List UInt8), ws[i]? = some x → W.cell? ⟨g, i, none⟩ = some (.string (tx x)))
theorem trow_of {W : World} {B : Nat} {v : Value} {ws : List (List UInt8)} (h : W.ownsRow B 9 1 v ws.length (wvs ws)) : TRow W v ws := by
  by_cases h0 : ws.length = 0
  · have h' := h
    rw [h0] at h'
    rcases Go.Joins.ownsRow_forms h' with ⟨rfl, _⟩ | ⟨g, c, rfl⟩
    · exact ⟨_, _, by rw [h0], fun h => by omega⟩
    · exact ⟨_, _, by rw [h0], fun h => by omega⟩
  · obtain ⟨g, c, rfl⟩ := Go.Joins.ownsRow_form h (by omega)
    refine ⟨_, c, rfl, fun _ => ⟨g, rfl, (h.lt g rfl).2, fun i x hx => ?_⟩⟩
    have hi : i < ws.length := (List.getElem?_eq_some_iff.1 hx).1
    rw [h.cellAt _ (by omega)]
    simp [wvs, hx]
theorem TRow.on {W V : World} {v : Value} {ws : List (List UInt8)} (h : TRow W v ws) (hV : Below W.heap.size W V) : TRow V v ws := by
  obtain ⟨a, cap, rfl, h⟩ := h
  refine ⟨a, cap, rfl, fun h0 => ?_⟩
  obtain ⟨g, rfl, h1, h2⟩ := h h0
  exact ⟨g, rfl, Nat.lt_of_lt_of_le h1 hV.size, fun i x hx => (hV.cell (p := ⟨g, i, none⟩) h1).trans (h2 i x hx)⟩
def nvs (l : List Int) : List Value := l.map fun x => .int .i64 x
theorem nInfo : (Tryd.prog.info? 3).map (fun i => (i.zero, i.size, i.bytes)) = some (some (.int .i64 0), 1, 8) := by kernel_rfl
/-- The numbers of the words. -/
def Reads (ws : List (List UInt8)) (ns : List Int) : Prop := ns.length = ws.length ∧ ∀ (i : Nat) (n : Int), ns[i]? = some n → In18 n ∧ ws[i]? = some (Lib.itoa n)
def NsAns (w' : World) (B : Nat) (ws : List (List UInt8)) (e : Ending) : Prop :=
  (∃ ns v, Reads ws ns ∧ e = .returned (.tuple #[v, .bool true]) ∧ w'.ownsRow B 3 1 v ns.length (nvs ns)) ∨ ((∃ x ∈ ws, ¬ NumOk x) ∧ e = .returned (.tuple #[.slice none 0 0, .bool false]))

set_option maxRecDepth 100000 in
set_option maxHeartbeats 2000000 in
theorem numbers_any (v : Value) (ws : List (List UInt8)) (w : World) (hl : ws.length ≤ 1000000000) (hw : ∀ x ∈ ws, x.length ≤ 1000000000) (hr : TRow w v ws) :
    Calls Tryd.prog 23 #[v] w fun e w' => NsAns w' w.heap.size ws e ∧ Below w.heap.size w w' := by
  obtain ⟨i0, hi, hz0, hz1, hz2⟩ := info_parts nInfo
  obtain ⟨a, cap, rfl, hr⟩ := hr
  have HR := Lib.hid hr
  have HWs := Lib.hid hw
  clear hr hw
  obtain ⟨n, hn⟩ : ∃ n, ws.length = n := ⟨_, rfl⟩
  rw [hn] at HR hl ⊢
  have HN := Lib.hid hn
  clear hn
  go_enter Tryd.func23, Tryd.ntmps23
  go_wp2
  go_loopw [4, 5] (fun v i wr => ∃ (k : Nat) (ns : List Int), k ≤ n ∧ i = .int .i64 k ∧ ns.length = k ∧ (∀ (j : Nat) (m : Int), ns[j]? = some m → In18 m ∧ ws[j]? = some (Lib.itoa m)) ∧ ∃ x : After w, wr = x.w ∧ x.w.ownsRow w.heap.size 3 1 v ns.length (nvs ns)) (fun _ i _ => n - (intOf i).toNat)
  case atStart => exact ⟨0, [], by omega, rfl, rfl, by simp, ⟨w, Below.refl _ _⟩, rfl, World.ownsRow_nil _ _ _ _⟩
  case round =>
    obtain ⟨k, ns, hk, rfl, hnk, hgood, x, rfl, hown⟩ := hrel
    have hsx := x.out.size
    have HG := Lib.hid hgood
    clear hgood
    by_cases hlt : k < n
    · obtain ⟨g, rfl, hg, hcell⟩ := HR.out (by omega)
      obtain ⟨t, ht⟩ : ∃ t, ws[k]? = some t := ⟨_, List.getElem?_eq_getElem (by have := HN.out; omega)⟩
      have hc := hcell k t ht
      have htm := List.mem_of_getElem? ht
      have HK := Lib.hid (number_any t x.w (HWs.out t htm))
      have HT := Lib.hid (And.intro ht htm)
      have hgx := x.size_lt hg
      clear hcell ht htm
      have hkn : (k : Int) < (n : Int) := by omega
      go_wp2_with fail
      refine HK.out.mono ?_
      rintro e w2 ⟨⟨N, ok, rfl, h1, h2⟩, hb2⟩
      have H1 := Lib.hid h1
      have H2 := Lib.hid h2
      clear h1 h2
      have hown2 : w2.ownsRow w.heap.size 3 1 u4 ns.length (nvs ns) := by
        obtain ⟨q1, q2 | ⟨g', cap', cur, a1, a2, a3, a4⟩⟩ := hown
        · exact ⟨q1, .inl q2⟩
        · exact ⟨q1, .inr ⟨g', cap', cur, a1, a2, (hb2.block g' (Array.getElem?_eq_some_iff.1 a3).1).trans a3, a4⟩⟩
      obtain ⟨y, rfl⟩ := after_of' (x.out.trans (hb2.mono x.out.size))
      have hsy := y.out.size
      clear hb2 hown
      cases ok
      · have hno := Lib.hid (H2.out rfl)
        go_wp2
        go_returns
        exact ⟨.inr ⟨⟨t, HT.out.2, hno.out⟩, rfl⟩, by (repeat' (first | (with_reducible exact Below.refl _ _) | (with_reducible assumption) | (with_reducible refine Below.alloc ?_ ?_ _) | (with_reducible refine Below.drew ?_) | (with_reducible refine below_drewN ?_ _) | (with_reducible refine Below.setCell ?_ ?_ _) | (with_reducible refine below_after ?_ ?_ _) | (with_reducible refine below_set ?_) | (with_reducible refine After.size_le _ ?_) | (with_reducible refine size_alloc_le ?_) | (with_reducible refine size_set_le ?_) | (with_reducible refine size_drewN_le ?_) | go_size))⟩
      · go_wp2_with (at_builtin; refine wpList_append_own _ rfl _ _ 50 rfl w.heap.size 3 i0 (.int .i64 0) 1 8 Tryd.underlying50 hi hz0 hz1 hz2 rfl (by decide) _ _ _ rfl (hown2.alloc _) ⟨y.w.heap.size, 0, none⟩ 1 1 [.int .i64 N] rfl rfl (World.news_of_block (cs := #[.int .i64 N]) (t := 3) (fr := (0, 0)) (heap_alloc_new y.w _)) (by simp [Value.oneCell']) (by unfold maxLen; omega) (by omega) (by simp; omega) ?_; intro v' w1 hown' hgrow _)
        go_roundw
        case rel => exact ⟨k + 1, ns ++ [N], by omega, by go_num, by simp [hnk], fun j m hj => by
          rcases Nat.lt_or_ge j ns.length with h | h
          · rw [List.getElem?_append_left h] at hj
            exact HG.out j m hj
          · rw [List.getElem?_append_right h] at hj
            have hj0 : j - ns.length = 0 := by
              rcases Nat.eq_zero_or_pos (j - ns.length) with h0 | h0
              · exact h0
              · rw [List.getElem?_eq_none (by simp only [List.length_cons, List.length_nil]; omega)] at hj; cases hj
            rw [hj0] at hj
            simp only [List.getElem?_cons_zero, Option.some.injEq] at hj
            subst hj
            have ⟨q1, q2⟩ := H1.out (by trivial)
            refine ⟨q1, ?_⟩
            rw [q2, show j = k by omega]
            exact HT.out.1, ⟨w1, (y.out.alloc hsy _).grown hgrow (by simp; omega) (fun j e => (hown2.lt j e).1)⟩, rfl, by simpa [nvs] using hown'⟩
        case measure => simp [intOf]; omega
    · obtain rfl : n = k := by omega
      have HO := Lib.hid hown
      clear hown
      go_wp2
      go_returns
      exact ⟨.inl ⟨ns, _, ⟨by rw [HN.out, hnk], HG.out⟩, rfl, HO.out⟩, x.out⟩

/-! ### Listed -/
/-- Numbers, each with a blank before it. -/
def listL (l : List Int) : List UInt8 := l.flatMap fun n => 32 :: Lib.itoa n
theorem listL_snoc (l : List Int) (n : Int) : listL (l ++ [n]) = listL l ++ (32 :: Lib.itoa n) := by simp [listL]
theorem itoa_len {n : Int} (h0 : -9223372036854775808 ≤ n) (h1 : n ≤ 9223372036854775807) : (Lib.itoa n).length ≤ 20 := by
  unfold Lib.itoa
  split
  · have := dec_len (N := n.natAbs) (by omega)
    simp; omega
  · have := dec_len (N := n.toNat) (by omega)
    omega
set_option maxRecDepth 100000 in
set_option maxHeartbeats 2000000 in
theorem listed_any (b off cap : Nat) (l : List Int) (w : World) (hb : b < w.heap.size) (hl : l.length ≤ 1000000) (h64 : ∀ n ∈ l, -9223372036854775808 ≤ n ∧ n ≤ 9223372036854775807)
    (hc : ∀ (i : Nat) (x : Int), l[i]? = some x → w.cell? ⟨b, off + i, none⟩ = some (.int .i64 x)) :
    Calls Tryd.prog 29 #[.slice (some ⟨b, off, none⟩) l.length cap] w fun e w' => e = .returned (.string (tx (listL l))) ∧ Below w.heap.size w w' := by
  have HC := Lib.hid hc
  have H64 := Lib.hid h64
  clear hc h64
  obtain ⟨n, hn⟩ : ∃ n, l.length = n := ⟨_, rfl⟩
  rw [hn] at hl ⊢
  have HN := Lib.hid hn
  clear hn
  go_enter Tryd.func29, Tryd.ntmps29
  go_wp2
  go_loopw [3, 4] (fun s i wr => ∃ k : Nat, k ≤ n ∧ i = .int .i64 k ∧ s = .string (tx (listL (l.take k))) ∧ (listL (l.take k)).length ≤ k * 21 ∧ ∃ x : After w, wr = x.w) (fun _ i _ => n - (intOf i).toNat)
  case atStart => exact ⟨0, by omega, rfl, rfl, by simp [listL], ⟨w, Below.refl _ _⟩, rfl⟩
  case round =>
    obtain ⟨k, hk, rfl, rfl, hlen, x, rfl⟩ := hrel
    have hbx := x.size_lt hb
    by_cases hlt : k < n
    · obtain ⟨m, hm⟩ : ∃ m, l[k]? = some m := ⟨_, List.getElem?_eq_getElem (by have := HN.out; omega)⟩
      have hc := HC.out k m hm
      obtain ⟨m1, m2⟩ := H64.out m (List.mem_of_getElem? hm)
      have htk : l.take (k + 1) = l.take k ++ [m] := by rw [List.take_add_one, hm]; rfl
      have HD := Lib.hid (digits_any m m1 m2 x.w)
      have hil := itoa_len m1 m2
      have HS : Hid (listL (l.take (k + 1)) = (listL (l.take k) ++ [32]) ++ Lib.itoa m) := Lib.hid (by rw [htk, listL_snoc]; simp)
      have hkn : (k : Int) < (n : Int) := by omega
      clear htk hm
      generalize listL (l.take k) = S at *
      generalize Lib.itoa m = D at *
      have e0 : (⟨#[32]⟩ : ByteArray) = tx [32] := rfl
      have hadd1 : ∀ w : World, (Op.stringOp .add (tx S) (tx [32])).run Tryd.prog w = .ok (.string (tx (S ++ [32]))) w := fun w => run_tx_add w S [32] (by omega) (by simp)
      have hadd2 : ∀ w : World, (Op.stringOp .add (tx (S ++ [32])) (tx D)).run Tryd.prog w = .ok (.string (tx ((S ++ [32]) ++ D))) w := fun w => run_tx_add w (S ++ [32]) D (by rw [List.length_append]; simp only [List.length_cons, List.length_nil]; omega) (by omega)
      go_wp2_with fail
      refine HD.out.mono ?_
      rintro e w2 ⟨rfl, hb2⟩
      obtain ⟨y, rfl⟩ := after_of' (x.out.trans (hb2.mono x.out.size))
      clear hb2
      go_wp2
      go_roundw
      case rel => exact ⟨k + 1, by omega, by go_num, by rw [HS.out]; simp, by rw [HS.out]; simp only [List.length_append, List.length_cons, List.length_nil]; omega, y, rfl⟩
      case measure => simp [intOf]; omega
    · obtain rfl : k = n := by omega
      have e : Hid (l.take k = l) := Lib.hid (List.take_of_length_le (by have := HN.out; omega))
      go_wp2
      go_ret
      exact ⟨congrArg (fun t => Ending.returned (Value.string (tx (listL t)))) e.out, by (repeat' (first | (with_reducible exact Below.refl _ _) | (with_reducible assumption) | (with_reducible refine Below.alloc ?_ ?_ _) | (with_reducible refine Below.drew ?_) | (with_reducible refine below_drewN ?_ _) | (with_reducible refine Below.setCell ?_ ?_ _) | (with_reducible refine below_after ?_ ?_ _) | (with_reducible refine below_set ?_) | (with_reducible refine After.size_le _ ?_) | (with_reducible refine size_alloc_le ?_) | (with_reducible refine size_set_le ?_) | (with_reducible refine size_drewN_le ?_) | go_size))⟩
end Go.Proofs.YtccjfmhbmieigaaDoor
