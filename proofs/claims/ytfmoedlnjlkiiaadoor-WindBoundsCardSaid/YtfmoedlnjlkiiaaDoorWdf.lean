/- Format in the program. -/
import Derived.Test.YtfmoedlnjlkiiaaDoorShelf
import Derived.Test.YtfmoedlnjlkiiaaDoorWdw
import Derived.Lib.Join
import Derived.Lib.AppendIntMem
import Derived.Deep.AppendLies
import Derived.OwnWalk
namespace Go.Proofs.YtfmoedlnjlkiiaaDoor
open Go.RowKit
attribute [local go_sem] After.cell After.frozen After.lt After.le After.ne After.ne' After.set_eq After.size_set After.lt_add

theorem var_onw {P : Program} {g : Nat} {W W' : World} {n : String} {cs : Array Value} (hv : W.var? P n = some cs) (hg : P.globalNamed n = some g) (hl : g < W.heap.size) (h : Below W.heap.size W W') : W'.var? P n = some cs := by
  unfold World.var? at hv ⊢
  simp only [hg, Option.bind_some] at hv ⊢
  rwa [h.block g hl]
/-- What the library's table holds. -/
structure Stw (W : World) : Prop where
  tab : Lib.TabIs Tryd.prog W "internal/strconv.uint64pow10" .u64 Lib.pow10Tab
  low : 1 < W.heap.size
theorem Stw.on {W W' : World} (h : Stw W) (hb : Below W.heap.size W W') : Stw W' :=
  ⟨var_onw (g := 1) h.tab (by kernel_rfl) h.low hb, Nat.lt_of_lt_of_le h.low hb.size⟩
/-- A gust's word. -/
def gw (x : Int) : List UInt8 := if x = -1 then [45] else Lib.itoa x
def txb (l : List UInt8) : ByteArray := ⟨l.toArray⟩
theorem writeGust_any (x : Int) (hx : -9223372036854775808 ≤ x ∧ x ≤ 9223372036854775807) (w : World) (hS : Stw w) :
    Calls Tryd.prog 74 #[.int .i64 x] w fun e w' => e = .returned (.string (txb (gw x))) ∧ Below w.heap.size w w' := by
  unfold gw txb
  by_cases h : x = -1
  · subst h
    rw [if_pos rfl]
    go_enter Tryd.func74, Tryd.ntmps74
    go_wp2
    go_ret
    exact ⟨rfl, Below.refl _ _⟩
  · have h' : (x == -1) = false := beq_eq_false_iff_ne.2 h
    have H := Lib.hid (Tryd.strconv_Itoa x hx.1 hx.2 w hS.tab)
    rw [if_neg h]
    clear h
    go_enter Tryd.func74, Tryd.ntmps74
    go_wp2_with fail
    refine H.out.mono ?_
    rintro e w1 ⟨rfl, k, os, rfl⟩
    go_wp2
    go_ret
    exact ⟨rfl, Lib.below_grow _ w (Nat.le_refl _) k os⟩
/-- The words of the first gusts. -/
def gws (f : Nat → Int) (k : Nat) : List (List UInt8) := (List.range k).map fun i => gw (f i)
theorem gws_succ (f : Nat → Int) (k : Nat) : gws f (k + 1) = gws f k ++ [gw (f k)] := by unfold gws; rw [List.range_succ, List.map_append]; rfl
theorem gws_len (f : Nat → Int) (k : Nat) : (gws f k).length = k := by simp [gws]
def svs (l : List (List UInt8)) : List Value := l.map fun x => .string (txb x)
theorem strInfow : (Tryd.prog.info? 9).map (fun i => (i.zero, i.size, i.bytes)) = some (some (.string ByteArray.empty), 1, 16) := by kernel_rfl
theorem decw_len {N : Nat} (h : N ≤ 9223372036854775808) : (Lib.decDigits N).length ≤ 19 := by
  rw [Lib.decDigits_length]
  rcases Nat.lt_or_ge (Lib.nDigits N) 20 with h1 | h1
  · omega
  · exfalso
    have : ∀ k u : Nat, Lib.nDigits u = k + 1 → 10 ^ k ≤ u ∨ k = 0 := by
      intro k
      induction k with
      | zero => intro u _; exact .inr rfl
      | succ k ih =>
        intro u hu
        by_cases h10 : u < 10
        · rw [Lib.nDigits_small h10] at hu; omega
        · rw [Lib.nDigits_big h10] at hu
          left
          rcases ih (u / 10) (by omega) with h2 | h2
          · rw [Nat.pow_succ]; omega
          · subst h2; simp; omega
    have h2 : 10 ^ 19 ≤ N := by
      rcases this (Lib.nDigits N - 1) N (by have := Lib.nDigits_pos N; omega) with h3 | h3
      · exact Nat.le_trans (Nat.pow_le_pow_right (by decide) (by omega)) h3
      · omega
    have : (10 : Nat) ^ 19 = 10000000000000000000 := by decide
    omega

theorem itoaw_len {n : Int} (h0 : -9223372036854775808 ≤ n) (h1 : n ≤ 9223372036854775807) : (Lib.itoa n).length ≤ 20 := by
  unfold Lib.itoa
  split
  · have := decw_len (N := n.natAbs) (by omega)
    simp; omega
  · have := decw_len (N := n.toNat) (by omega)
    omega
theorem gw_len {x : Int} (h : OkG x) : (gw x).length ≤ 20 := by
  unfold gw
  split
  · simp
  · unfold OkG Btw at h
    exact itoaw_len (by omega) (by omega)
theorem join_len (sep : List UInt8) (hs : sep.length ≤ 1) : ∀ xs : List (List UInt8), (∀ x ∈ xs, x.length ≤ 20) → (Lib.join xs sep).length ≤ xs.length * 21
  | [], _ => by simp [Lib.join, List.intercalate]
  | [x], h => by have := h x (by simp); simp [Lib.join, List.intercalate]; omega
  | x :: y :: r, h => by
    have ih := join_len sep hs (y :: r) (fun z hz => h z (List.mem_cons_of_mem _ hz))
    have hx := h x (by simp)
    have e : Lib.join (x :: y :: r) sep = x ++ (sep ++ Lib.join (y :: r) sep) := by simp [Lib.join, List.intercalate]
    rw [e]
    simp only [List.length_append, List.length_cons] at ih ⊢
    omega
/-- The gusts' text. -/
def formG (n : Nat) (f : Nat → Int) : List UInt8 := if GoodG n f then Lib.join (gws f n) [32] else []

set_option maxRecDepth 100000 in
set_option maxHeartbeats 1000000 in
theorem formatG_any (a : Option Addr) (n cap : Nat) (f : Nat → Int) (w : World) (hA : IAt w a n f) (hS : Stw w) :
    Calls Tryd.prog 49 #[.slice a n cap] w fun e w' => e = .returned (.string (txb (formG n f))) ∧ Below w.heap.size w w' := by
  have HV := Lib.hid (validGusts_any a n cap f w hA)
  have HA := Lib.hid hA
  have e32 : (⟨#[32]⟩ : ByteArray) = ⟨([32] : List UInt8).toArray⟩ := rfl
  obtain ⟨i0, hi, hz0, hz1, hz2⟩ := info_parts strInfow
  unfold formG
  by_cases hG : GoodG n f
  · rw [decide_eq_true hG] at HV
    rw [if_pos hG]
    obtain ⟨hn, hf⟩ := hG
    have hnI : (n : Int) ≤ 2000 := by omega
    have HW := Lib.hid (fun k (hk : k < n) W (hW : Below w.heap.size w W) => writeGust_any (f k) (by have := hf k hk; unfold OkG Btw at this; omega) W (hS.on hW))
    have hwl : ∀ x ∈ gws f n, x.length ≤ 20 := fun x hx => by
      obtain ⟨i, hi, rfl⟩ := List.mem_map.1 hx
      exact gw_len (hf i (List.mem_range.1 hi))
    have HJl := Lib.hid (join_len [32] (by simp) _ hwl)
    clear hwl hA hS
    go_enter Tryd.func49, Tryd.ntmps49
    go_wp2_with fail
    refine HV.out.mono ?_
    rintro e w1 ⟨rfl, hb1⟩
    have HB1 := Lib.hid hb1
    clear hb1 HV
    go_wp2
    go_loopw [3, 11] (fun v i wr => ∃ k : Nat, k ≤ n ∧ i = .int .i64 k ∧ wr.ownsRow w.heap.size 9 1 v k (svs (gws f k)) ∧ Hid (Below w.heap.size w wr)) (fun _ i _ => n - (intOf i).toNat)
    case atStart => exact ⟨0, by omega, rfl, World.ownsRow_nil _ _ _ _, HB1⟩
    case round =>
      obtain ⟨k, hk, rfl, hown, HB⟩ := hrel
      by_cases hlt : k < n
      · have hlti : (k : Int) < (n : Int) := by omega
        obtain ⟨b, off, rfl, hb, hc⟩ := HA.out k hlt
        have hcr := (HB.out.cell (p := ⟨b, off + k, none⟩) hb).trans hc
        have HWk := Lib.hid (HW.out k hlt wr HB.out)
        have HSu := Lib.hid (gws_succ f k)
        have HOw := Lib.hid hown
        have hbr := HB.out.size
        clear hown
        generalize f k = x at *
        go_wp2_with fail
        refine HWk.out.mono ?_
        rintro e w2 ⟨rfl, hw2⟩
        have HO2 := Lib.hid (ownsR_stay HOw.out hw2)
        have HB2 := Lib.hid (HB.out.trans (hw2.mono hbr))
        have hs2 := hw2.size
        clear hw2 hcr
        go_wp2_with (at_builtin; refine wpList_append_own _ rfl _ _ 102 rfl w.heap.size 9 i0 (.string ByteArray.empty) 1 16 Tryd.underlying102 hi hz0 hz1 hz2 rfl (by decide) _ _ _ rfl (HO2.out.alloc _) ⟨w2.heap.size, 0, none⟩ 1 1 [.string (txb (gw x))] rfl rfl (World.news_of_block (cs := #[.string (txb (gw x))]) (t := 9) (fr := (0, 0)) (heap_alloc_new w2 _)) (by simp [Value.oneCell']) (by unfold maxLen; omega) (by omega) (by simp; omega) ?_; intro v' w3 hown' hgrow _)
        go_roundw
        case rel => exact ⟨k + 1, by omega, by go_num, by rw [HSu.out]; simpa [svs] using hown', Lib.hid ((HB2.out.alloc (by omega) _).grown hgrow (by simp; omega) (fun j e => (HO2.out.lt j e).1))⟩
        case measure => simp [intOf]; omega
      · obtain rfl : k = n := by omega
        have HOw := Lib.hid hown
        clear hown
        rcases Nat.eq_zero_or_pos k with rfl | h0
        · obtain ⟨av, cv, rfl⟩ := ownsR_shape HOw.out
          have HJ := Lib.hid (Tryd.strings_Join_none av cv ⟨#[32]⟩ wr)
          go_wp2_with fail
          refine HJ.out.mono ?_
          rintro e w3 ⟨rfl, rfl⟩
          go_wp2
          go_ret
          exact ⟨rfl, HB.out⟩
        · obtain ⟨g, cv, rfl⟩ := Go.Joins.ownsRow_form HOw.out h0
          have hg := (HOw.out.lt g rfl).2
          have hcc : k ≤ cv := by
            rcases HOw.out.2 with ⟨e, _⟩ | ⟨g', cap', _, e, _, _, h1, _⟩
            · cases e
            · cases e; exact h1
          have ej : ((gws f k).map txb).map (·.data.toList) = gws f k := by
            rw [List.map_map]
            simp [Function.comp_def, txb]
          have HJ := Tryd.strings_Join g 0 cv ((gws f k).map txb) ⟨#[32]⟩ wr (fun j x hx => by
            rw [List.getElem?_map] at hx
            obtain ⟨y, hy, rfl⟩ := Option.map_eq_some_iff.1 hx
            have hj : j < k := by have := (List.getElem?_eq_some_iff.1 hy).1; rw [gws_len] at this; exact this
            rw [Nat.zero_add, HOw.out.cellAt _ (by omega)]
            simp [svs, hy]) hg (by rw [List.length_map, gws_len]; omega) (by rw [List.length_map, gws_len]; exact hcc) (by
            rw [ej]
            have := HJl.out
            rw [gws_len] at this
            show (Lib.join (gws f k) [32]).length ≤ _
            omega)
          rw [ej, List.length_map, gws_len] at HJ
          have HJ := Lib.hid HJ
          go_wp2_with fail
          refine HJ.out.mono ?_
          rintro e w3 ⟨rfl, hb3⟩
          have HB3 := Lib.hid (HB.out.trans (hb3.mono HB.out.size))
          clear hb3
          go_wp2
          go_ret
          exact ⟨rfl, HB3.out⟩
  · rw [decide_eq_false hG] at HV
    rw [if_neg hG]
    go_enter Tryd.func49, Tryd.ntmps49
    go_wp2_with fail
    refine HV.out.mono ?_
    rintro e w1 ⟨rfl, hb1⟩
    go_wp2
    go_ret
    exact ⟨rfl, hb1⟩
end Go.Proofs.YtfmoedlnjlkiiaaDoor
