/- The program's readItem. -/
import Derived.Test.YtkgfaemdgmmdkaaGreatDoorIpw
import Derived.Test.YtkgfaemdgmmdkaaGreatDoorGxSplitt
import Derived.Deep.RegionWith
import Derived.Deep.DeepCutAuto
namespace Go.Proofs.YtkgfaemdgmmdkaaGreatDoor.Gx
open Go.Proofs.YtkgfaemdgmmdkaaGreatDoor
open Go.RowKit
attribute [local go_sem] After.cell After.frozen After.lt After.le After.ne After.ne' After.lt_add tx_size tx_toList

/-- What Atoi's number is, whatever its error. -/
def atoI (s : List UInt8) : Int := match Lib.atoiAll s with
  | .ok v => v
  | .«syntax» => 0
  | .range => Lib.atoiSat s
theorem atoI_in (s : List UInt8) : I64 (atoI s) := by
  unfold atoI
  cases h : Lib.atoiAll s with
  | ok v => exact atoi_in h
  | «syntax» => show -9223372036854775808 ≤ (0 : Int) ∧ (0 : Int) ≤ 9223372036854775807; omega
  | range => show -9223372036854775808 ≤ Lib.atoiSat s ∧ Lib.atoiSat s ≤ 9223372036854775807; unfold Lib.atoiSat; split <;> omega
theorem atoI_itoa {n : Int} (h : I64 n) : atoI (Lib.itoa n) = n := by unfold atoI; rw [atoi_itoa h]
theorem atoiI_val {s : List UInt8} (hs : s.length ≤ 65536) {w : World} (hS : Std w) :
    Calls Tryz.prog 41 #[.string (tx s)] w fun e w' => (∃ err, e = .returned (.tuple #[.int .i64 (atoI s), err]) ∧ (err = .nilIface ∨ ∃ t p, err = .iface t p)) ∧ Below w.heap.size w w' := by
  have hz : (tx s).size = s.length := tx_size s
  unfold atoI
  cases h : Lib.atoiAll s with
  | ok v =>
    refine (Tryz.strconv_Atoi_ok (tx s) (by omega) v h w).mono ?_
    rintro e w' ⟨rfl, h2⟩
    refine ⟨⟨.nilIface, rfl, .inl rfl⟩, ?_⟩
    rcases h2 with rfl | ⟨t, rfl⟩
    · exact Below.refl _ _
    · exact Lib.bytesWorld_below _ _ _
  | «syntax» =>
    obtain ⟨tp, p, hv⟩ := hS.syn
    refine (Tryz.strconv_Atoi_syntax_var (tx s) (by omega) h tp p w hv).mono ?_
    rintro e w' ⟨N, rfl, _, _, h2⟩
    exact ⟨⟨_, rfl, .inr ⟨_, _, rfl⟩⟩, h2⟩
  | range =>
    obtain ⟨tp, p, hv⟩ := hS.rng
    refine (Tryz.strconv_Atoi_range_var (tx s) (by omega) h tp p w hv).mono ?_
    rintro e w' ⟨N, rfl, _, _, h2⟩
    exact ⟨⟨_, rfl, .inr ⟨_, _, rfl⟩⟩, h2⟩
/-- The line without its line feed. -/
def trimI (s : List UInt8) : List UInt8 := Lib.trimSuffix s [10]
theorem trimI_len (s : List UInt8) : (trimI s).length ≤ s.length := by
  unfold trimI Lib.trimSuffix
  split
  · rw [List.length_take]; omega
  · omega
theorem trimI_line (t : List UInt8) : trimI (t ++ [10]) = t := by
  unfold trimI Lib.trimSuffix Lib.hasSuffix
  rw [if_pos (List.isSuffixOf_iff_suffix.2 ⟨t, rfl⟩)]
  simp
theorem trimI_any (s : List UInt8) (hs : s.length ≤ 65536) (w : World) :
    Calls Tryz.prog 40 #[.string (tx s), .string (tx [10])] w fun e w' => e = .returned (.string (tx (trimI s))) ∧ w' = w :=
  Tryz.strings_TrimSuffix (tx s) (tx [10]) w (by rw [tx_size]; omega)
theorem wordsI_le (mark : UInt8) (s : List UInt8) : ∀ x ∈ wordsL mark s, x.length ≤ s.length := by
  have key : ∀ s : List UInt8, (∀ x ∈ (cutW mark s).1, x.length ≤ s.length) ∧ (cutW mark s).2.length ≤ s.length := by
    intro s
    induction s with
    | nil => simp [cutW]
    | cons c cs ih =>
      simp only [cutW]
      by_cases h : c = mark
      · simp only [h, if_true, List.length_cons]
        exact ⟨fun x hx => by
          rcases List.mem_cons.1 hx with rfl | hx
          · simp
          · have := ih.1 x hx; omega, by omega⟩
      · simp only [h, if_false]
        cases hv : (cutW mark cs).1 with
        | nil => simp; omega
        | cons v vs =>
          rw [hv] at ih
          refine ⟨fun x hx => ?_, by simp; omega⟩
          rcases List.mem_cons.1 hx with rfl | hx
          · have := ih.1 v (by simp); simp; omega
          · have := ih.1 x (by simp [hx]); simp; omega
  intro x hx
  unfold wordsL at hx
  rcases List.mem_append.1 hx with hx | hx
  · exact (key s).1 x hx
  · rw [List.mem_singleton.1 hx]; exact (key s).2
theorem words_free (mark : UInt8) (s : List UInt8) : ∀ x ∈ wordsL mark s, mark ∉ x := by
  have key : ∀ s : List UInt8, (∀ x ∈ (cutW mark s).1, mark ∉ x) ∧ mark ∉ (cutW mark s).2 := by
    intro s
    induction s with
    | nil => simp [cutW]
    | cons c cs ih =>
      simp only [cutW]
      by_cases h : c = mark
      · simp only [h, if_true]
        exact ⟨fun x hx => by
          rcases List.mem_cons.1 hx with rfl | hx
          · simp
          · exact ih.1 x hx, ih.2⟩
      · simp only [h, if_false]
        have h' : ¬ mark = c := fun e => h e.symm
        cases hv : (cutW mark cs).1 with
        | nil => simp [h', ih.2]
        | cons v vs =>
          rw [hv] at ih
          refine ⟨fun x hx => ?_, ih.2⟩
          rcases List.mem_cons.1 hx with rfl | hx
          · simp [h', ih.1 v (by simp)]
          · exact ih.1 x (by simp [hx])
  intro x hx
  unfold wordsL at hx
  rcases List.mem_append.1 hx with hx | hx
  · exact (key s).1 x hx
  · rw [List.mem_singleton.1 hx]; exact (key s).2
/-- What readItem answers. -/
def RdI (s : List UInt8) (e : Ending) : Prop := ∃ (p : It) (ok : Bool), e = .returned (.tuple #[.agg #[.string (tx p.1), .int .i64 p.2.1, .int .i64 p.2.2.1, .string (tx p.2.2.2)], .bool ok]) ∧ (p.1.length ≤ 65536 ∧ p.2.2.2.length ≤ 65536) ∧ (ok = true → InI p ∧ s = itL p ++ [10]) ∧ (ok = false → ∀ q, InI q → s ≠ itL q ++ [10])
theorem rdI_of {s : List UInt8} {w0 w1 w2 w3 : List UInt8} (hs : s.length ≤ 65536) (hw : wordsL 32 (trimI s) = [w0, w1, w2, w3]) (ok : Bool) (hok : (itL (w0, atoI w1, atoI w2, w3) ++ [10] == s) = ok) :
    ∀ e, e = .returned (.tuple #[.agg #[.string (tx w0), .int .i64 (atoI w1), .int .i64 (atoI w2), .string (tx w3)], .bool ok]) → RdI s e := fun e he => by
  have hle := wordsI_le 32 (trimI s)
  have hfr := words_free 32 (trimI s)
  have hl := trimI_len s
  rw [hw] at hle hfr
  have a0 := hle w0 (by simp)
  have a3 := hle w3 (by simp)
  refine ⟨(w0, atoI w1, atoI w2, w3), ok, he, ⟨by show w0.length ≤ 65536; omega, by show w3.length ≤ 65536; omega⟩, fun h => ⟨⟨⟨hfr w0 (by simp), hfr w3 (by simp)⟩, atoI_in w1, atoI_in w2⟩, ?_⟩, fun h q hq e => ?_⟩
  · rw [h] at hok
    exact (beq_iff_eq.1 hok).symm
  · have e1 : wordsL 32 (trimI s) = wdI q := by rw [e, trimI_line, words_it hq]
    rw [hw] at e1
    simp only [wdI, List.cons.injEq, and_true] at e1
    obtain ⟨rfl, rfl, rfl, rfl⟩ := e1
    rw [atoI_itoa hq.2.1, atoI_itoa hq.2.2] at hok
    have : itL q ++ [10] = s := e.symm
    have hq' : (q.1, q.2.1, q.2.2.1, q.2.2.2) = q := rfl
    rw [hq', this, h] at hok
    simp at hok
theorem rdI_len {s : List UInt8} (hw : (wordsL 32 (trimI s)).length ≠ 4) : RdI s (.returned (.tuple #[.agg #[.string ByteArray.empty, .int .i64 0, .int .i64 0, .string ByteArray.empty], .bool false])) := by
  refine ⟨it0, false, rfl, ⟨by simp [it0], by simp [it0]⟩, (fun h => by cases h), fun _ q hq e => ?_⟩
  apply hw
  rw [e, trimI_line, words_it hq]
  rfl
theorem four_words {l : List (List UInt8)} (h : l.length = 4) : ∃ a b c d, l = [a, b, c, d] := by
  match l, h with
  | [a, b, c, d], _ => exact ⟨a, b, c, d, rfl⟩
/-- An item in a block of the call's own. -/
structure Has4 (W : World) (B : Nat) (p : It) : Prop where
  lt : B < W.heap.size
  g0 : W.cell? ⟨B, 0, none⟩ = some (.string (tx p.1))
  g1 : W.cell? ⟨B, 1, none⟩ = some (.int .i64 p.2.1)
  g2 : W.cell? ⟨B, 2, none⟩ = some (.int .i64 p.2.2.1)
  g3 : W.cell? ⟨B, 3, none⟩ = some (.string (tx p.2.2.2))
  free : ∀ o, W.frozen? ⟨B, o, none⟩ = false
theorem Has4.on {W W' : World} {B : Nat} {p : It} (h : Has4 W B p) (hb : Below W.heap.size W W') : Has4 W' B p :=
  ⟨Nat.lt_of_lt_of_le h.lt hb.size, (hb.cell (p := ⟨B, 0, none⟩) h.lt).trans h.g0, (hb.cell (p := ⟨B, 1, none⟩) h.lt).trans h.g1, (hb.cell (p := ⟨B, 2, none⟩) h.lt).trans h.g2, (hb.cell (p := ⟨B, 3, none⟩) h.lt).trans h.g3, fun o => (hb.frozen (p := ⟨B, o, none⟩) h.lt).trans (h.free o)⟩
theorem Has4.drew {W : World} {B : Nat} {p : It} (h : Has4 W B p) : Has4 W.drew B p := ⟨h.lt, h.g0, h.g1, h.g2, h.g3, h.free⟩
theorem has4_new (w : World) (T : TypeId) (p : It) : Has4 (w.alloc (.cells #[.string (tx p.1), .int .i64 p.2.1, .int .i64 p.2.2.1, .string (tx p.2.2.2)] T)) w.heap.size p := ⟨by simp, by simp [go_sem], by simp [go_sem], by simp [go_sem], by simp [go_sem], fun o => by simp [go_sem]⟩
theorem Has4.other {W : World} {B : Nat} {p : It} (h : Has4 W B p) {q : Addr} {v : Value} (hq : q.block ≠ B) : Has4 (W.setCell q v) B p := by
  have e : ∀ o, (W.setCell q v).cell? ⟨B, o, none⟩ = W.cell? ⟨B, o, none⟩ := fun o => World.cell?_setCell_other _ _ _ _ (by intro e; rw [e] at hq; exact hq rfl)
  exact ⟨by simpa using h.lt, (e 0).trans h.g0, (e 1).trans h.g1, (e 2).trans h.g2, (e 3).trans h.g3, fun o => by simp [h.free o]⟩
theorem has4_ne (B o o' : Nat) (h : o ≠ o') : (⟨B, o, none⟩ : Addr) ≠ ⟨B, o', none⟩ := fun e => h (by cases e; rfl)
theorem Has4.set0 {W : World} {B : Nat} {p : It} (h : Has4 W B p) (c : List UInt8) : Has4 (W.setCell ⟨B, 0, none⟩ (.string (tx c))) B (c, p.2) :=
  ⟨by simpa using h.lt, World.cell?_setCell_same _ _ _ h.g0, (World.cell?_setCell_other _ _ _ _ (by simp)).trans h.g1, (World.cell?_setCell_other _ _ _ _ (by simp)).trans h.g2, (World.cell?_setCell_other _ _ _ _ (by simp)).trans h.g3, fun o => by simp [h.free o]⟩
theorem Has4.set1 {W : World} {B : Nat} {p : It} (h : Has4 W B p) (c : Int) : Has4 (W.setCell ⟨B, 1, none⟩ (.int .i64 c)) B (p.1, c, p.2.2) :=
  ⟨by simpa using h.lt, (World.cell?_setCell_other _ _ _ _ (by simp)).trans h.g0, World.cell?_setCell_same _ _ _ h.g1, (World.cell?_setCell_other _ _ _ _ (by simp)).trans h.g2, (World.cell?_setCell_other _ _ _ _ (by simp)).trans h.g3, fun o => by simp [h.free o]⟩
theorem Has4.set2 {W : World} {B : Nat} {p : It} (h : Has4 W B p) (c : Int) : Has4 (W.setCell ⟨B, 2, none⟩ (.int .i64 c)) B (p.1, p.2.1, c, p.2.2.2) :=
  ⟨by simpa using h.lt, (World.cell?_setCell_other _ _ _ _ (by simp)).trans h.g0, (World.cell?_setCell_other _ _ _ _ (by simp)).trans h.g1, World.cell?_setCell_same _ _ _ h.g2, (World.cell?_setCell_other _ _ _ _ (by simp)).trans h.g3, fun o => by simp [h.free o]⟩
theorem Has4.set3 {W : World} {B : Nat} {p : It} (h : Has4 W B p) (c : List UInt8) : Has4 (W.setCell ⟨B, 3, none⟩ (.string (tx c))) B (p.1, p.2.1, p.2.2.1, c) :=
  ⟨by simpa using h.lt, (World.cell?_setCell_other _ _ _ _ (by simp)).trans h.g0, (World.cell?_setCell_other _ _ _ _ (by simp)).trans h.g1, (World.cell?_setCell_other _ _ _ _ (by simp)).trans h.g2, World.cell?_setCell_same _ _ _ h.g3, fun o => by simp [h.free o]⟩
/-- What readItem works on: the result's block, the item's block. -/
def AtI (w : World) (p : It) (cb : Nat) (W : World) : Prop := Below w.heap.size w W ∧ Has4 W w.heap.size it0 ∧ Has4 W cb p
theorem AtI.drew {w W : World} {p : It} {cb : Nat} (h : AtI w p cb W) : AtI w p cb W.drew := ⟨h.1.drew, h.2.1.drew, h.2.2.drew⟩
theorem AtI.on {w W W' : World} {p : It} {cb : Nat} (h : AtI w p cb W) (hb : Below W.heap.size W W') : AtI w p cb W' := ⟨h.1.trans (hb.mono h.1.size), h.2.1.on hb, h.2.2.on hb⟩
set_option maxRecDepth 1000000 in
set_option maxHeartbeats 4000000 in
theorem readItem_any {s : List UInt8} (hs : s.length ≤ 65536) {w : World} (hS : Std w) :
    Calls Tryz.prog 21 #[.string (tx s)] w fun e w' => RdI s e ∧ Below w.heap.size w w' := by
  have htl := trimI_len s
  have HTr := Lib.hid (trimI_any s hs)
  have HSp := Lib.hid (fun W (hW : Below w.heap.size w W) => split_any (s := trimI s) (by omega) (hS.on hW))
  have e10 : (⟨#[10]⟩ : ByteArray) = tx [10] := rfl
  have e32 : (⟨#[32]⟩ : ByteArray) = tx [32] := rfl
  by_cases h4 : (wordsL 32 (trimI s)).length = 4
  · have hle := wordsI_le 32 (trimI s)
    have HR := Lib.hid (fun w0 w1 w2 w3 hw => rdI_of (w0 := w0) (w1 := w1) (w2 := w2) (w3 := w3) hs hw)
    obtain ⟨y0, y1, y2, y3, hw⟩ := four_words h4
    have HR' := Lib.hid (HR.out _ _ _ _ hw)
    rw [hw] at HSp hle
    have HA := Lib.hid (fun W (hW : Below w.heap.size w W) => atoiI_val (s := y1) (by have := hle y1 (by simp); omega) (hS.on hW))
    have HB := Lib.hid (fun W (hW : Below w.heap.size w W) => atoiI_val (s := y2) (by have := hle y2 (by simp); omega) (hS.on hW))
    have HW := Lib.hid (fun W (hW : Below w.heap.size w W) => writeItem_any (y0, atoI y1, atoI y2, y3) W ⟨atoI_in y1, atoI_in y2⟩ ⟨by have := hle y0 (by simp); show y0.length ≤ 65536; omega, by have := hle y3 (by simp); show y3.length ≤ 65536; omega⟩ (hS.on hW))
    simp only at HW
    clear hS hle HR hw h4 htl
    generalize atoI y1 = n1 at *
    generalize atoI y2 = n2 at *
    generalize itL (y0, n1, n2, y3) ++ [10] = R at *
    generalize trimI s = t0 at *
    go_enter Tryz.func21, Tryz.ntmps21
    go_wp2_with fail
    refine (HTr.out _).mono ?_
    rintro e1 w1 ⟨rfl, rfl⟩
    go_wp2_with fail
    refine (HSp.out _ (by (repeat' (first | (with_reducible exact Below.refl _ _) | (with_reducible assumption) | (with_reducible refine Below.alloc ?_ ?_ _) | (with_reducible refine Below.drew ?_) | (with_reducible refine below_drewN ?_ _) | (with_reducible refine Below.setCell ?_ ?_ _) | (with_reducible refine below_after ?_ ?_ _) | (with_reducible refine below_set ?_) | (with_reducible refine After.size_le _ ?_) | (with_reducible refine size_alloc_le ?_) | (with_reducible refine size_set_le ?_) | (with_reducible refine size_drewN_le ?_) | go_size)))).mono ?_
    rintro e2 w2 ⟨⟨v, rfl, hT⟩, hb2⟩
    obtain ⟨a, cap, rfl, hg⟩ := hT
    obtain ⟨g, rfl, hgl, hgc⟩ := hg (by simp)
    have c0 := hgc 0 y0 rfl
    have c1 := hgc 1 y1 rfl
    have c2 := hgc 2 y2 rfl
    have c3 := hgc 3 y3 rfl
    go_wp2_with fail
    go_region
    have hz2 := (has4_new w 33 it0).on (hb2.mono (by simp))
    have hbw2 : Below w.heap.size w w2 := Below.trans (b := w.alloc (.cells #[.string { data := #[] }, .int .i64 0, .int .i64 0, .string { data := #[] }] 33)) (by (repeat' (first | (with_reducible exact Below.refl _ _) | (with_reducible assumption) | (with_reducible refine Below.alloc ?_ ?_ _) | (with_reducible refine Below.drew ?_) | (with_reducible refine below_drewN ?_ _) | (with_reducible refine Below.setCell ?_ ?_ _) | (with_reducible refine below_after ?_ ?_ _) | (with_reducible refine below_set ?_) | (with_reducible refine After.size_le _ ?_) | (with_reducible refine size_alloc_le ?_) | (with_reducible refine size_set_le ?_) | (with_reducible refine size_drewN_le ?_) | go_size))) (hb2.mono (by simp))
    obtain ⟨cb, hcb⟩ : ∃ cb, w2.heap.size = cb := ⟨_, rfl⟩
    obtain ⟨V, hV⟩ : ∃ V, (w2.alloc (.cells #[.string (tx y0), .int .i64 0, .int .i64 0, .string (tx y3)] 33)).drew = V := ⟨_, rfl⟩
    have hA2 : Below w2.heap.size w2 V := by rw [← hV]; (repeat' (first | (with_reducible exact Below.refl _ _) | (with_reducible assumption) | (with_reducible refine Below.alloc ?_ ?_ _) | (with_reducible refine Below.drew ?_) | (with_reducible refine below_drewN ?_ _) | (with_reducible refine Below.setCell ?_ ?_ _) | (with_reducible refine below_after ?_ ?_ _) | (with_reducible refine below_set ?_) | (with_reducible refine After.size_le _ ?_) | (with_reducible refine size_alloc_le ?_) | (with_reducible refine size_set_le ?_) | (with_reducible refine size_drewN_le ?_) | go_size))
    have d1 := (hA2.cell (p := ⟨g, 1, none⟩) hgl).trans c1
    have d2 := (hA2.cell (p := ⟨g, 2, none⟩) hgl).trans c2
    have hAt : AtI w (y0, 0, 0, y3) cb V := by
      rw [← hV, ← hcb]
      exact ⟨(hbw2.alloc hbw2.size _).drew, (hz2.on ((Below.refl _ _).alloc (Nat.le_refl _) _)).drew, (has4_new w2 _ (y0, 0, 0, y3)).drew⟩
    have hne : w.heap.size ≠ cb := by have := hz2.lt; omega
    have hge : w.heap.size ≤ cb := by have := hz2.lt; omega
    have hgv : g < V.heap.size := Nat.lt_of_lt_of_le hgl hA2.size
    have hgc' : g < cb := by omega
    rw [hV, hcb]
    clear hV hcb hz2 hbw2 hA2 c0 c1 c2 c3 hgl hgc hg hb2
    have HAt := Lib.hid hAt
    clear hAt
    go_wp2_with fail
    refine (HA.out _ HAt.out.1).mono ?_
    rintro e3 w3 ⟨⟨err3, rfl, -⟩, hb3⟩
    have h3 := HAt.out.on hb3
    have g1 := h3.2.2.g1
    have f1 := h3.2.2.free 1
    have d2 := (hb3.cell (p := ⟨g, 2, none⟩) hgv).trans d2
    have HAt4 : Hid (AtI w (y0, n1, 0, y3) cb (w3.setCell ⟨cb, 1, none⟩ (.int .i64 n1))) := Lib.hid ⟨h3.1.setCell (p := ⟨cb, 1, none⟩) hge _, h3.2.1.other (q := ⟨cb, 1, none⟩) (Ne.symm hne), h3.2.2.set1 n1⟩
    have d2' : (w3.setCell ⟨cb, 1, none⟩ (.int .i64 n1)).cell? ⟨g, 2, none⟩ = some (.string (tx y2)) := (World.cell?_setCell_other _ _ _ _ (by intro e; have := congrArg Addr.block e; dsimp only at this; omega)).trans d2
    have hgv3 : g < (w3.setCell ⟨cb, 1, none⟩ (.int .i64 n1)).heap.size := by have := hb3.size; simp; omega
    obtain ⟨V4, hV4⟩ : ∃ V4, w3.setCell ⟨cb, 1, none⟩ (.int .i64 n1) = V4 := ⟨_, rfl⟩
    have HV4 := Lib.hid hV4
    rw [hV4] at HAt4 d2' hgv3
    clear hV4 hb3 h3 HAt HA d1
    go_upto_region 6 with (fail)
    rw [HV4.out]
    clear HV4 g1 f1 d2 hgv
    go_wp2_with fail
    refine (HB.out _ HAt4.out.1).mono ?_
    rintro e5 w5 ⟨⟨err5, rfl, -⟩, hb5⟩
    have h5 := HAt4.out.on hb5
    have g2 := h5.2.2.g2
    have f2 := h5.2.2.free 2
    have HAt6 : Hid (AtI w (y0, n1, n2, y3) cb (w5.setCell ⟨cb, 2, none⟩ (.int .i64 n2))) := Lib.hid ⟨h5.1.setCell (p := ⟨cb, 2, none⟩) hge _, h5.2.1.other (q := ⟨cb, 2, none⟩) (Ne.symm hne), h5.2.2.set2 n2⟩
    obtain ⟨V6, hV6⟩ : ∃ V6, w5.setCell ⟨cb, 2, none⟩ (.int .i64 n2) = V6 := ⟨_, rfl⟩
    have HV6 := Lib.hid hV6
    rw [hV6] at HAt6
    clear hV6 hb5 h5 HAt4 HB
    go_upto_region 7 with (fail)
    rw [HV6.out]
    clear HV6 g2 f2 d2'
    obtain ⟨ok, hok⟩ : ∃ ok, (R == s) = ok := ⟨_, rfl⟩
    have HOk := Lib.hid hok
    obtain ⟨k0, k1, k2, k3⟩ : V6.cell? ⟨cb, 0, none⟩ = some (.string (tx y0)) ∧ V6.cell? ⟨cb, 1, none⟩ = some (.int .i64 n1) ∧ V6.cell? ⟨cb, 2, none⟩ = some (.int .i64 n2) ∧ V6.cell? ⟨cb, 3, none⟩ = some (.string (tx y3)) := ⟨HAt6.out.2.2.g0, HAt6.out.2.2.g1, HAt6.out.2.2.g2, HAt6.out.2.2.g3⟩
    obtain ⟨r0, r1, r2, r3, rf⟩ : V6.cell? ⟨w.heap.size, 0, none⟩ = some (.string (tx [])) ∧ V6.cell? ⟨w.heap.size, 1, none⟩ = some (.int .i64 0) ∧ V6.cell? ⟨w.heap.size, 2, none⟩ = some (.int .i64 0) ∧ V6.cell? ⟨w.heap.size, 3, none⟩ = some (.string (tx [])) ∧ ∀ o, V6.frozen? ⟨w.heap.size, o, none⟩ = false := ⟨HAt6.out.2.1.g0, HAt6.out.2.1.g1, HAt6.out.2.1.g2, HAt6.out.2.1.g3, HAt6.out.2.1.free⟩
    go_region_with (go_at_call 18; refine (HW.out _ (by first | exact HAt6.out.1 | exact HAt6.out.1.drew)).mono ?_; rintro e7 w7 ⟨rfl, hb7⟩; have HAt7 : Hid (AtI w (y0, n1, n2, y3) cb w7) := Lib.hid (by first | exact HAt6.out.on hb7 | exact HAt6.out.drew.on hb7); obtain ⟨k0, k1, k2, k3⟩ : w7.cell? ⟨cb, 0, none⟩ = some (.string (tx y0)) ∧ w7.cell? ⟨cb, 1, none⟩ = some (.int .i64 n1) ∧ w7.cell? ⟨cb, 2, none⟩ = some (.int .i64 n2) ∧ w7.cell? ⟨cb, 3, none⟩ = some (.string (tx y3)) := ⟨HAt7.out.2.2.g0, HAt7.out.2.2.g1, HAt7.out.2.2.g2, HAt7.out.2.2.g3⟩; obtain ⟨r0, r1, r2, r3, rf⟩ : w7.cell? ⟨w.heap.size, 0, none⟩ = some (.string (tx [])) ∧ w7.cell? ⟨w.heap.size, 1, none⟩ = some (.int .i64 0) ∧ w7.cell? ⟨w.heap.size, 2, none⟩ = some (.int .i64 0) ∧ w7.cell? ⟨w.heap.size, 3, none⟩ = some (.string (tx [])) ∧ ∀ o, w7.frozen? ⟨w.heap.size, o, none⟩ = false := ⟨HAt7.out.2.1.g0, HAt7.out.2.1.g1, HAt7.out.2.1.g2, HAt7.out.2.1.g3, HAt7.out.2.1.free⟩)
    all_goals
      have hX := (((HAt7.out.2.1.set0 y0).set1 n1).set2 n2).set3 y3
      have k0 := hX.g0
      have k1 := hX.g1
      have k2 := hX.g2
      have k3 := hX.g3
      go_wp2_with fail
      exact bodyPost_ret (v := .tuple #[.agg #[.string (tx y0), .int .i64 n1, .int .i64 n2, .string (tx y3)], .bool ok]) (by simp [results, Tryz.results21, go_sem, k0, k1, k2, k3]) rfl ⟨HR'.out ok HOk.out _ rfl, (((HAt7.out.1.setCell (p := ⟨w.heap.size, 0, none⟩) (Nat.le_refl _) _).setCell (p := ⟨w.heap.size, 1, none⟩) (Nat.le_refl _) _).setCell (p := ⟨w.heap.size, 2, none⟩) (Nat.le_refl _) _).setCell (p := ⟨w.heap.size, 3, none⟩) (Nat.le_refl _) _⟩
  · have HR := Lib.hid (rdI_len h4)
    have h4' : (((wordsL 32 (trimI s)).length : Int) != 4) = true := bne_iff_ne.2 (by omega)
    clear h4 htl hS
    generalize wordsL 32 (trimI s) = ws at *
    generalize trimI s = t0 at *
    go_enter Tryz.func21, Tryz.ntmps21
    go_wp2_with fail
    refine (HTr.out _).mono ?_
    rintro e1 w1 ⟨rfl, rfl⟩
    go_wp2_with fail
    refine (HSp.out _ (by (repeat' (first | (with_reducible exact Below.refl _ _) | (with_reducible assumption) | (with_reducible refine Below.alloc ?_ ?_ _) | (with_reducible refine Below.drew ?_) | (with_reducible refine below_drewN ?_ _) | (with_reducible refine Below.setCell ?_ ?_ _) | (with_reducible refine below_after ?_ ?_ _) | (with_reducible refine below_set ?_) | (with_reducible refine After.size_le _ ?_) | (with_reducible refine size_alloc_le ?_) | (with_reducible refine size_set_le ?_) | (with_reducible refine size_drewN_le ?_) | go_size)))).mono ?_
    rintro e2 w2 ⟨⟨v, rfl, hT⟩, hb2⟩
    obtain ⟨a, cap, rfl, _⟩ := hT
    have hz2 := (has4_new w 33 it0).on (hb2.mono (by simp))
    have hbw2 : Below w.heap.size w w2 := Below.trans (b := w.alloc (.cells #[.string { data := #[] }, .int .i64 0, .int .i64 0, .string { data := #[] }] 33)) (by (repeat' (first | (with_reducible exact Below.refl _ _) | (with_reducible assumption) | (with_reducible refine Below.alloc ?_ ?_ _) | (with_reducible refine Below.drew ?_) | (with_reducible refine below_drewN ?_ _) | (with_reducible refine Below.setCell ?_ ?_ _) | (with_reducible refine below_after ?_ ?_ _) | (with_reducible refine below_set ?_) | (with_reducible refine After.size_le _ ?_) | (with_reducible refine size_alloc_le ?_) | (with_reducible refine size_set_le ?_) | (with_reducible refine size_drewN_le ?_) | go_size))) (hb2.mono (by simp))
    have HB2 := Lib.hid hbw2
    obtain ⟨r0, r1, r2, r3, rf⟩ : w2.cell? ⟨w.heap.size, 0, none⟩ = some (.string ByteArray.empty) ∧ w2.cell? ⟨w.heap.size, 1, none⟩ = some (.int .i64 0) ∧ w2.cell? ⟨w.heap.size, 2, none⟩ = some (.int .i64 0) ∧ w2.cell? ⟨w.heap.size, 3, none⟩ = some (.string ByteArray.empty) ∧ ∀ o, w2.frozen? ⟨w.heap.size, o, none⟩ = false := ⟨hz2.g0, hz2.g1, hz2.g2, hz2.g3, hz2.free⟩
    have HZ := Lib.hid hz2
    clear hb2 hbw2 hz2 HTr HSp
    have hX := (((HZ.out.set0 []).set1 0).set2 0).set3 []
    have HX := Lib.hid (And.intro hX ((((HB2.out.setCell (p := ⟨w.heap.size, 0, none⟩) (Nat.le_refl _) (.string (tx []))).setCell (p := ⟨w.heap.size, 1, none⟩) (Nat.le_refl _) (.int .i64 0)).setCell (p := ⟨w.heap.size, 2, none⟩) (Nat.le_refl _) (.int .i64 0)).setCell (p := ⟨w.heap.size, 3, none⟩) (Nat.le_refl _) (.string (tx []))))
    clear hX
    go_wp2
    have e0 : (⟨#[]⟩ : ByteArray) = tx [] := rfl
    rw [e0]
    have k0 := HX.out.1.g0
    have k1 := HX.out.1.g1
    have k2 := HX.out.1.g2
    have k3 := HX.out.1.g3
    exact bodyPost_ret (v := .tuple #[.agg #[.string (tx []), .int .i64 0, .int .i64 0, .string (tx [])], .bool false]) (by simp only [it0] at k0 k1 k2 k3; simp [results, Tryz.results21, go_sem, k0, k1, k2, k3]) rfl ⟨HR.out, HX.out.2⟩
end Go.Proofs.YtkgfaemdgmmdkaaGreatDoor.Gx
