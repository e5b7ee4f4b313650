/- The longest span: the mathematics, and the reference's Longest. -/
import Derived.Test.YtfmoedlnjlkiiaaDoorWdp
import Derived.Test.YtfmoedlnjlkiiaaDoorItz
namespace Go.Proofs.YtfmoedlnjlkiiaaDoor
open Go.RowKit
attribute [local go_sem] After.cell After.frozen After.lt After.le After.ne After.ne' After.set_eq After.size_set After.lt_add

def stepB (b x : Int × Int) : Int × Int := if b.2 - b.1 < x.2 - x.1 then x else b
def bst (b : Int × Int) (l : List (Int × Int)) : Int × Int := l.foldl stepB b
def SpOk (l : List (Int × Int)) : Prop := ∀ x ∈ l, 0 ≤ x.1 ∧ x.1 < x.2 ∧ x.2 ≤ 3000
theorem addS_ok {l : List (Int × Int)} {k : Nat} (h : SpOk l) (hk : k < 2000) : SpOk (addS l k) := by
  rcases nil_or_snoc l with rfl | ⟨l', ⟨x, y⟩, rfl⟩
  · intro p hp
    rw [addS_nil] at hp
    obtain rfl := List.mem_singleton.1 hp
    dsimp only
    omega
  · have hxy := h (x, y) (by simp)
    dsimp only at hxy
    rw [addS_last]
    split
    · intro p hp
      rcases List.mem_append.1 hp with hp | hp
      · exact h p (List.mem_append_left _ hp)
      · obtain rfl := List.mem_singleton.1 hp
        dsimp only
        omega
    · intro p hp
      rcases List.mem_append.1 hp with hp | hp
      · exact h p hp
      · obtain rfl := List.mem_singleton.1 hp
        dsimp only
        omega
theorem spS_ok {xs : List Nat} (h : ∀ k ∈ xs, k < 2000) : SpOk (spS xs) := by
  have key : ∀ (xs : List Nat) (l : List (Int × Int)), SpOk l → (∀ k ∈ xs, k < 2000) → SpOk (xs.foldl addS l) := by
    intro xs
    induction xs with
    | nil => intro l hl _; exact hl
    | cons x xs ih => intro l hl hx; exact ih _ (addS_ok hl (hx x List.mem_cons_self)) (fun k hk => hx k (List.mem_cons_of_mem _ hk))
  exact key xs [] (fun x hx => by cases hx) h
theorem fl_ok (p : Nat → Bool) {n : Nat} (hn : n ≤ 2000) : SpOk (spS (fl p n)) := spS_ok fun k hk => by have := (fl_lt hk).1; omega
theorem bst_take (b : Int × Int) {l : List (Int × Int)} {k : Nat} (h : k < l.length) : bst b (l.take (k + 1)) = stepB (bst b (l.take k)) (l.getD k (0, 0)) := by
  unfold bst
  rw [List.take_add_one, List.getElem?_eq_getElem h, Option.toList_some, List.foldl_append, List.getD_eq_getElem?_getD, List.getElem?_eq_getElem h]
  rfl
theorem bst_ok {b : Int × Int} {l : List (Int × Int)} (hb : 0 ≤ b.1 ∧ b.1 ≤ b.2 ∧ b.2 ≤ 3000) (hl : SpOk l) : 0 ≤ (bst b l).1 ∧ (bst b l).1 ≤ (bst b l).2 ∧ (bst b l).2 ≤ 3000 := by
  induction l generalizing b with
  | nil => exact hb
  | cons x l ih =>
    have hx := hl x List.mem_cons_self
    refine ih (b := stepB b x) ?_ (fun y hy => hl y (List.mem_cons_of_mem _ hy))
    unfold stepB
    split
    · omega
    · exact hb
theorem spOk_take {l : List (Int × Int)} (h : SpOk l) (k : Nat) : SpOk (l.take k) := fun x hx => h x (List.mem_of_mem_take hx)
theorem spOk_get {l : List (Int × Int)} (h : SpOk l) {k : Nat} (hk : k < l.length) : 0 ≤ (l.getD k (0, 0)).1 ∧ (l.getD k (0, 0)).1 < (l.getD k (0, 0)).2 ∧ (l.getD k (0, 0)).2 ≤ 3000 := by
  rw [List.getD_eq_getElem?_getD, List.getElem?_eq_getElem hk]
  exact h _ (List.getElem_mem hk)
theorem bst_pos {b : Int × Int} {l : List (Int × Int)} (hb : 0 ≤ b.1 ∧ b.1 < b.2) (hl : SpOk l) : 0 < (bst b l).2 := by
  induction l generalizing b with
  | nil => show 0 < b.2; omega
  | cons x l ih =>
    have hx := hl x List.mem_cons_self
    refine ih (b := stepB b x) ?_ (fun y hy => hl y (List.mem_cons_of_mem _ hy))
    unfold stepB
    split
    · omega
    · exact hb
theorem bst_cons {x : Int × Int} {l : List (Int × Int)} (hl : SpOk (x :: l)) : bst (0, 0) (x :: l) = bst x l := by
  have hx := hl x List.mem_cons_self
  show (x :: l).foldl stepB (0, 0) = _
  rw [List.foldl_cons]
  unfold stepB
  rw [if_pos (show ((0 : Int), (0 : Int)).2 - ((0 : Int), (0 : Int)).1 < x.2 - x.1 by dsimp only; omega)]
  rfl
theorem bst_self (x : Int × Int) (l : List (Int × Int)) : bst x (x :: l) = bst x l := by
  show (x :: l).foldl stepB x = _
  rw [List.foldl_cons]
  unfold stepB
  rw [if_neg (by omega)]
  rfl
/-- What Longest answers. -/
def loL (s g c : Int) (n : Nat) (f : Nat → Int) : List (Int × Int) := spS (fl (gW s g c f) n)
def loE (s g c : Int) (n : Nat) (f : Nat → Int) : Int := if AskB s g c n f then (if loL s g c n f = [] then 8 else 0) else 1
def loB (s g c : Int) (n : Nat) (f : Nat → Int) : Int × Int := if AskB s g c n f then bst (0, 0) (loL s g c n f) else (0, 0)
def spV (p : Int × Int) : Value := .agg #[.int .i64 p.1, .int .i64 p.2]
theorem fl_true (s g c : Int) (n : Nat) (f : Nat → Int) : spS (fl (fun k => gW s g c f k == true) n) = loL s g c n f := by
  unfold loL
  rw [fl_eq (q := gW s g c f) (fun k _ => by simp)]

/-- What a search for the longest span has in memory. -/
structure LgAt (W : World) (B R : Nat) (b : Int × Int) (g : Nat) (L : List (Int × Int)) : Prop where
  b0 : W.cell? ⟨B, 0, none⟩ = some (.int .i64 b.1)
  b1 : W.cell? ⟨B, 1, none⟩ = some (.int .i64 b.2)
  bf : ∀ o, W.frozen? ⟨B, o, none⟩ = false
  r0 : W.cell? ⟨R, 0, none⟩ = some (.int .i64 0)
  r1 : W.cell? ⟨R, 1, none⟩ = some (.int .i64 0)
  rf : ∀ o, W.frozen? ⟨R, o, none⟩ = false
  row : ∀ i, i < L.length → W.cell? ⟨g, i * 2, none⟩ = some (.int .i64 (L.getD i (0, 0)).1) ∧ W.cell? ⟨g, i * 2 + 1, none⟩ = some (.int .i64 (L.getD i (0, 0)).2)
theorem LgAt.on {W W' : World} {B R g : Nat} {b : Int × Int} {L : List (Int × Int)} (h : LgAt W B R b g L) (hb : Below W.heap.size W W') : LgAt W' B R b g L := by
  have key : ∀ {p : Addr} {v : Value}, W.cell? p = some v → W'.cell? p = some v := fun {p v} h => (hb.cell (World.block_lt_of_cell? W p h)).trans h
  have lB := World.block_lt_of_cell? W _ h.b0
  have lR := World.block_lt_of_cell? W _ h.r0
  exact ⟨key h.b0, key h.b1, fun o => (hb.frozen (p := ⟨B, o, none⟩) lB).trans (h.bf o), key h.r0, key h.r1, fun o => (hb.frozen (p := ⟨R, o, none⟩) lR).trans (h.rf o), fun i hi => ⟨key (h.row i hi).1, key (h.row i hi).2⟩⟩
theorem LgAt.set {W : World} {B R g : Nat} {b : Int × Int} {L : List (Int × Int)} (h : LgAt W B R b g L) (x : Int × Int) (hR : B ≠ R) (hg : B ≠ g) : LgAt ((W.setCell ⟨B, 0, none⟩ (.int .i64 x.1)).setCell ⟨B, 1, none⟩ (.int .i64 x.2)) B R x g L := by
  have F : Fr (fun i => i = B) W ((W.setCell ⟨B, 0, none⟩ (.int .i64 x.1)).setCell ⟨B, 1, none⟩ (.int .i64 x.2)) := ((Fr.refl (M := fun i => i = B) W).setCell (p := ⟨B, 0, none⟩) (.inl rfl) _).setCell (p := ⟨B, 1, none⟩) (.inl rfl) _
  have key : ∀ {p : Addr} {v : Value}, p.block ≠ B → W.cell? p = some v → ((W.setCell ⟨B, 0, none⟩ (.int .i64 x.1)).setCell ⟨B, 1, none⟩ (.int .i64 x.2)).cell? p = some v := fun {p v} hp h => F.cell hp h
  have lR := World.block_lt_of_cell? W _ h.r0
  refine ⟨?_, ?_, fun o => by simpa using h.bf o, key (Ne.symm hR) h.r0, key (Ne.symm hR) h.r1, fun o => by simpa using h.rf o, fun i hi => ⟨key (Ne.symm hg) (h.row i hi).1, key (Ne.symm hg) (h.row i hi).2⟩⟩
  · rw [World.cell?_setCell_other _ _ _ _ (by simp)]
    exact World.cell?_setCell_same _ _ _ h.b0
  · exact World.cell?_setCell_same _ _ _ ((World.cell?_setCell_other _ _ _ _ (by simp)).trans h.b1)

set_option maxRecDepth 100000 in
set_option maxHeartbeats 2000000 in
theorem rlongest_say (s g c : Int) (a : Option Addr) (n cap : Nat) (f : Nat → Int) (w : World) (hA : IAt w a n f) (hcap : n ≤ 9223372036854775807) :
    Calls Tryd.prog 24 #[.agg #[.int .i64 s, .int .i64 g, .int .i64 c], .slice a n cap] w fun e w' => e = .returned (.tuple #[spV (loB s g c n f), .int .i64 (loE s g c n f)]) ∧ Below w.heap.size w w' := by
  have HV := Lib.hid (fun W (hW : Below w.heap.size w W) => asked_any s g c a n cap f W (hA.on hW) hcap)
  have HA := Lib.hid hA
  unfold loE loB spV
  cases hk : AskB s g c n f
  · rw [hk] at HV
    go_enter Tryd.func24, Tryd.ntmps24
    go_wp2_with fail
    refine calls_after (HV.out _ (by (repeat' (first | (with_reducible exact Below.refl _ _) | (with_reducible assumption) | (with_reducible refine Below.alloc ?_ ?_ _) | (with_reducible refine Below.drew ?_) | (with_reducible refine below_drewN ?_ _) | (with_reducible refine Below.setCell ?_ ?_ _) | (with_reducible refine below_after ?_ ?_ _) | (with_reducible refine below_set ?_) | (with_reducible refine After.size_le _ ?_) | (with_reducible refine size_alloc_le ?_) | (with_reducible refine size_set_le ?_) | (with_reducible refine size_drewN_le ?_) | go_size)))) ?_
    intro x1
    go_wp2
    go_returns
    exact ⟨rfl, by (repeat' (first | (with_reducible exact Below.refl _ _) | (with_reducible assumption) | (with_reducible refine Below.alloc ?_ ?_ _) | (with_reducible refine Below.drew ?_) | (with_reducible refine below_drewN ?_ _) | (with_reducible refine Below.setCell ?_ ?_ _) | (with_reducible refine below_after ?_ ?_ _) | (with_reducible refine below_set ?_) | (with_reducible refine After.size_le _ ?_) | (with_reducible refine size_alloc_le ?_) | (with_reducible refine size_set_le ?_) | (with_reducible refine size_drewN_le ?_) | go_size))⟩
  · obtain ⟨hc, hn, hf⟩ := ask_c hk
    rw [hk] at HV
    have hok := fl_ok (gW s g c f) hn
    have HG := Lib.hid (fun W (hW : Below w.heap.size w W) => rgoing_any s g c a n cap f W (HA.out.on hW) hn hc hf)
    have HS : Hid (∀ gg W, W.ownsRow w.heap.size 4 1 (.slice (some ⟨gg, 0, none⟩) n n) n (bxs (gW s g c f) n n) → Calls Tryd.prog 55 #[.slice (some ⟨gg, 0, none⟩) n n, .bool true] W fun e w' => (∃ v, e = .returned v ∧ SpRow w' W.heap.size v (loL s g c n f)) ∧ Below W.heap.size W w') := Lib.hid (fun gg W hg => by
      rw [← fl_true]
      exact rspans_any gg n (gW s g c f) true W (hg.lt _ rfl).2 hn (fun k hk => by rw [hg.cellAt k (by omega), bxs_full _ _ hk]))
    change SpOk (loL s g c n f) at hok
    have hlen : (loL s g c n f).length ≤ 2000 := Nat.le_trans (spS_len _) (Nat.le_trans (fl_len _ _) hn)
    simp only [if_true]
    generalize loL s g c n f = L at *
    rcases L with _ | ⟨p, L⟩
    · go_enter Tryd.func24, Tryd.ntmps24
      go_wp2_with fail
      refine calls_after (HV.out _ (by (repeat' (first | (with_reducible exact Below.refl _ _) | (with_reducible assumption) | (with_reducible refine Below.alloc ?_ ?_ _) | (with_reducible refine Below.drew ?_) | (with_reducible refine below_drewN ?_ _) | (with_reducible refine Below.setCell ?_ ?_ _) | (with_reducible refine below_after ?_ ?_ _) | (with_reducible refine below_set ?_) | (with_reducible refine After.size_le _ ?_) | (with_reducible refine size_alloc_le ?_) | (with_reducible refine size_set_le ?_) | (with_reducible refine size_drewN_le ?_) | go_size)))) ?_
      intro x1
      have hB1 : Below w.heap.size w x1.w := by (repeat' (first | (with_reducible exact Below.refl _ _) | (with_reducible assumption) | (with_reducible refine Below.alloc ?_ ?_ _) | (with_reducible refine Below.drew ?_) | (with_reducible refine below_drewN ?_ _) | (with_reducible refine Below.setCell ?_ ?_ _) | (with_reducible refine below_after ?_ ?_ _) | (with_reducible refine below_set ?_) | (with_reducible refine After.size_le _ ?_) | (with_reducible refine size_alloc_le ?_) | (with_reducible refine size_set_le ?_) | (with_reducible refine size_drewN_le ?_) | go_size))
      have r0 : x1.w.cell? ⟨w.heap.size + 1, 0, none⟩ = some (.int .i64 0) := by
        rw [x1.out.cell (p := ⟨w.heap.size + 1, 0, none⟩) (by simp)]
        simp [go_sem]
      have r1 : x1.w.cell? ⟨w.heap.size + 1, 1, none⟩ = some (.int .i64 0) := by
        rw [x1.out.cell (p := ⟨w.heap.size + 1, 1, none⟩) (by simp)]
        simp [go_sem]
      have rf : ∀ o, x1.w.frozen? ⟨w.heap.size + 1, o, none⟩ = false := fun o => by
        rw [x1.out.frozen (p := ⟨w.heap.size + 1, o, none⟩) (by simp)]
        simp [go_sem]
      have hx1s := x1.out.size
      simp only [World.size_alloc] at hx1s
      go_wp2_with fail
      refine (HG.out _ hB1).mono ?_
      rintro e w2 ⟨⟨gg, rfl, hg⟩, hb2⟩
      have hg' := Go.Joins.ownsRow_le (base' := w.heap.size) hg hB1.size
      have hB2 := hB1.trans (hb2.mono hB1.size)
      have r0 := (hb2.cell (p := ⟨w.heap.size + 1, 0, none⟩) (by simp; omega)).trans r0
      have r1 := (hb2.cell (p := ⟨w.heap.size + 1, 1, none⟩) (by simp; omega)).trans r1
      have rf : ∀ o, w2.frozen? ⟨w.heap.size + 1, o, none⟩ = false := fun o => (hb2.frozen (p := ⟨w.heap.size + 1, o, none⟩) (by simp; omega)).trans (rf o)
      have hs2 := hb2.size
      clear hg hb2 HG
      go_wp2_with fail
      refine (HS.out gg w2 hg').mono ?_
      rintro e w3 ⟨⟨v, rfl, hv⟩, hb3⟩
      have HB3 := Lib.hid (hB2.trans (hb3.mono hB2.size))
      have r0 := (hb3.cell (p := ⟨w.heap.size + 1, 0, none⟩) (by simp; omega)).trans r0
      have r1 := (hb3.cell (p := ⟨w.heap.size + 1, 1, none⟩) (by simp; omega)).trans r1
      have rf : ∀ o, w3.frozen? ⟨w.heap.size + 1, o, none⟩ = false := fun o => (hb3.frozen (p := ⟨w.heap.size + 1, o, none⟩) (by simp; omega)).trans (rf o)
      have rf0 := rf 0
      have rf1 := rf 1
      have hs3 := hb3.size
      clear hg' hb3 HS hB1 hB2
      obtain ⟨av, cv, rfl⟩ := ownsR_shape hv
      clear hv
      have z0 : bst (0, 0) [] = (0, 0) := rfl
      obtain ⟨X, hX⟩ : ∃ X, (w3.setCell ⟨w.heap.size + 1, 0, none⟩ (.int .i64 0)).setCell ⟨w.heap.size + 1, 1, none⟩ (.int .i64 0) = X := ⟨_, rfl⟩
      have w0 : X.cell? ⟨w.heap.size + 1, 0, none⟩ = some (.int .i64 0) := by rw [← hX, World.cell?_setCell_other _ _ _ _ (by simp)]; exact World.cell?_setCell_same _ _ _ r0
      have w1 : X.cell? ⟨w.heap.size + 1, 1, none⟩ = some (.int .i64 0) := by rw [← hX]; exact World.cell?_setCell_same _ _ _ ((World.cell?_setCell_other _ _ _ _ (by simp)).trans r1)
      have HBX : Below w.heap.size w X := by rw [← hX]; exact (HB3.out.setCell (by simp) _).setCell (by simp) _
      go_wp2
      clear hX r0 r1 rf rf0 rf1
      refine bodyPost_ret (v := .tuple #[.agg #[.int .i64 0, .int .i64 0], .int .i64 8]) (by simp [results, Tryd.results24, go_sem, w0, w1]) rfl ⟨by simp, HBX⟩
    · rw [bst_cons hok, ← bst_self p L, if_neg (by simp)]
      have hp0 : (p :: L).getD 0 (0, 0) = p := rfl
      have hpos : 0 < (p :: L).length := by simp
      have hpk := hok p List.mem_cons_self
      generalize p :: L = M at *
      go_enter Tryd.func24, Tryd.ntmps24
      go_wp2_with fail
      refine calls_after (HV.out _ (by (repeat' (first | (with_reducible exact Below.refl _ _) | (with_reducible assumption) | (with_reducible refine Below.alloc ?_ ?_ _) | (with_reducible refine Below.drew ?_) | (with_reducible refine below_drewN ?_ _) | (with_reducible refine Below.setCell ?_ ?_ _) | (with_reducible refine below_after ?_ ?_ _) | (with_reducible refine below_set ?_) | (with_reducible refine After.size_le _ ?_) | (with_reducible refine size_alloc_le ?_) | (with_reducible refine size_set_le ?_) | (with_reducible refine size_drewN_le ?_) | go_size)))) ?_
      intro x1
      have hB1 : Below w.heap.size w x1.w := by (repeat' (first | (with_reducible exact Below.refl _ _) | (with_reducible assumption) | (with_reducible refine Below.alloc ?_ ?_ _) | (with_reducible refine Below.drew ?_) | (with_reducible refine below_drewN ?_ _) | (with_reducible refine Below.setCell ?_ ?_ _) | (with_reducible refine below_after ?_ ?_ _) | (with_reducible refine below_set ?_) | (with_reducible refine After.size_le _ ?_) | (with_reducible refine size_alloc_le ?_) | (with_reducible refine size_set_le ?_) | (with_reducible refine size_drewN_le ?_) | go_size))
      have r0 : x1.w.cell? ⟨w.heap.size + 1, 0, none⟩ = some (.int .i64 0) := by
        rw [x1.out.cell (p := ⟨w.heap.size + 1, 0, none⟩) (by simp)]
        simp [go_sem]
      have r1 : x1.w.cell? ⟨w.heap.size + 1, 1, none⟩ = some (.int .i64 0) := by
        rw [x1.out.cell (p := ⟨w.heap.size + 1, 1, none⟩) (by simp)]
        simp [go_sem]
      have rf : ∀ o, x1.w.frozen? ⟨w.heap.size + 1, o, none⟩ = false := fun o => by
        rw [x1.out.frozen (p := ⟨w.heap.size + 1, o, none⟩) (by simp)]
        simp [go_sem]
      have hx1s := x1.out.size
      simp only [World.size_alloc] at hx1s
      go_wp2_with fail
      refine (HG.out _ hB1).mono ?_
      rintro e w2 ⟨⟨gg, rfl, hg⟩, hb2⟩
      have hg' := Go.Joins.ownsRow_le (base' := w.heap.size) hg hB1.size
      have hB2 := hB1.trans (hb2.mono hB1.size)
      have r0 := (hb2.cell (p := ⟨w.heap.size + 1, 0, none⟩) (by simp; omega)).trans r0
      have r1 := (hb2.cell (p := ⟨w.heap.size + 1, 1, none⟩) (by simp; omega)).trans r1
      have rf : ∀ o, w2.frozen? ⟨w.heap.size + 1, o, none⟩ = false := fun o => (hb2.frozen (p := ⟨w.heap.size + 1, o, none⟩) (by simp; omega)).trans (rf o)
      have hs2 := hb2.size
      clear hg hb2 HG
      go_wp2_with fail
      refine (HS.out gg w2 hg').mono ?_
      rintro e w3 ⟨⟨v, rfl, hv⟩, hb3⟩
      have HB3 := Lib.hid (hB2.trans (hb3.mono hB2.size))
      have r0 := (hb3.cell (p := ⟨w.heap.size + 1, 0, none⟩) (by simp; omega)).trans r0
      have r1 := (hb3.cell (p := ⟨w.heap.size + 1, 1, none⟩) (by simp; omega)).trans r1
      have rf : ∀ o, w3.frozen? ⟨w.heap.size + 1, o, none⟩ = false := fun o => (hb3.frozen (p := ⟨w.heap.size + 1, o, none⟩) (by simp; omega)).trans (rf o)
      have rf0 := rf 0
      have rf1 := rf 1
      have hs3 := hb3.size
      clear hg' hb3 HS hB1 hB2
      obtain ⟨g', cp, rfl⟩ := Go.Joins.ownsRow_form hv hpos
      have hg' := hv.lt g' rfl
      have hrow : ∀ i, i < M.length → w3.cell? ⟨g', i * 2, none⟩ = some (.int .i64 (M.getD i (0, 0)).1) ∧ w3.cell? ⟨g', i * 2 + 1, none⟩ = some (.int .i64 (M.getD i (0, 0)).2) := fun i hi => by
        rw [hv.cellAt _ (by omega), hv.cellAt _ (by omega)]
        exact scv_get hi
      obtain ⟨q0, q1⟩ := hrow 0 hpos
      rw [hp0] at q0 q1
      simp only [Nat.zero_mul, Nat.zero_add] at q0 q1
      have hi0 : ¬ ((M.length : Int) = 0) := by omega
      have hi1 : (0 : Int) < (M.length : Int) := by omega
      have hmI : (M.length : Int) ≤ 2000 := by omega
      clear hv
      obtain ⟨p1, p2⟩ := p
      dsimp only at q0 q1 hpk
      go_wp2
      have hL0 : LgAt (w3.alloc (.cells #[.int .i64 p1, .int .i64 p2] 38)) w3.heap.size (w.heap.size + 1) (p1, p2) g' M :=
        ⟨by simp [go_sem], by simp [go_sem], fun o => by simp [go_sem], keep_alloc r0, keep_alloc r1, fun o => (((Below.refl _ w3).alloc (Nat.le_refl _) _).frozen (p := ⟨w.heap.size + 1, o, none⟩) (by simp; omega)).trans (rf o), fun i hi => ⟨keep_alloc (hrow i hi).1, keep_alloc (hrow i hi).2⟩⟩
      have HB4 := HB3.out.alloc HB3.out.size (.cells #[.int .i64 p1, .int .i64 p2] 38)
      obtain ⟨W4, hW4⟩ : ∃ W4, w3.alloc (.cells #[.int .i64 p1, .int .i64 p2] 38) = W4 := ⟨_, rfl⟩
      rw [hW4] at hL0 HB4 ⊢
      have hne1 : w3.heap.size ≠ w.heap.size + 1 := by omega
      have hne2 : w3.heap.size ≠ g' := by omega
      have hwB : w.heap.size ≤ w3.heap.size := by omega
      clear hW4 HB3 q0 q1 r0 r1 rf rf0 rf1 hrow HV
      generalize w3.heap.size = B at *
      go_loopw [11] (fun i wr => ∃ k : Nat, k ≤ M.length ∧ i = .int .i64 k ∧ Hid (LgAt wr B (w.heap.size + 1) (bst (p1, p2) (M.take k)) g' M) ∧ Hid (Below w.heap.size w wr)) (fun i _ => M.length - (intOf i).toNat)
      case atStart => exact ⟨0, by omega, rfl, Lib.hid hL0, Lib.hid HB4⟩
      case round =>
        obtain ⟨k, hk, rfl, HL, HB⟩ := hrel
        by_cases hlt : k < M.length
        · obtain ⟨l0, l1⟩ := HL.out.row k hlt
          have hlti : (k : Int) < (M.length : Int) := by omega
          have b0 := HL.out.b0
          have b1 := HL.out.b1
          have HT := Lib.hid (bst_take (p1, p2) hlt)
          have hbo := bst_ok (b := (p1, p2)) (by dsimp only; omega) (spOk_take hok k)
          have hxo := spOk_get hok hlt
          generalize bst (p1, p2) (M.take k) = u at *
          generalize M.getD k (0, 0) = x at *
          obtain ⟨u1, u2⟩ := u
          obtain ⟨x1', x2'⟩ := x
          dsimp only at b0 b1 l0 l1 hbo hxo
          have lB := World.block_lt_of_cell? _ _ b0
          have lg := World.block_lt_of_cell? _ _ l0
          dsimp only at lB lg
          unfold stepB at HT
          dsimp only at HT
          by_cases hcmp : u2 - u1 < x2' - x1'
          · rw [if_pos hcmp] at HT
            go_wp2_with fail
            refine wp_region_after (by kernel_rfl) (by kernel_rfl) ?_; (repeat (first | go_big_quiet_step ((fail)) | (refine wpQuiet_step (fun K hK => ?_); go_simp; first | (refine hK _ ?_; clear hK K) | (apply Exists.intro; refine ⟨fun x => ?_, hK _ ?_⟩; (fail); clear hK K)))); refine wpQuiet_nil ?_
            intro y
            have HLy := Lib.hid (HL.out.on y.out)
            have HBy := Lib.hid (HB.out.trans (y.out.mono HB.out.size))
            have m0 := HLy.out.b0
            have m1 := HLy.out.b1
            have mf0 := HLy.out.bf 0
            have mf1 := HLy.out.bf 1
            have n0 := (y.out.cell (p := ⟨g', k * 2, none⟩) lg).trans l0
            have n1 := (y.out.cell (p := ⟨g', k * 2 + 1, none⟩) lg).trans l1
            dsimp only at m0 m1
            generalize y.w = Y at *
            go_wp2
            go_roundw
            case rel => exact ⟨k + 1, by omega, by go_num, by rw [HT.out]; exact Lib.hid (HLy.out.set (x1', x2') hne1 hne2), Lib.hid ((HBy.out.setCell hwB _).setCell hwB _)⟩
            case measure => simp [intOf]; omega
          · rw [if_neg hcmp] at HT
            have hcf : decide (u2 - u1 < x2' - x1') = false := decide_eq_false hcmp
            clear hcmp
            go_wp2_with fail
            refine wp_region_after (by kernel_rfl) (by kernel_rfl) ?_; (repeat (first | go_big_quiet_step ((fail)) | (refine wpQuiet_step (fun K hK => ?_); go_simp; first | (refine hK _ ?_; clear hK K) | (apply Exists.intro; refine ⟨fun x => ?_, hK _ ?_⟩; (fail); clear hK K)))); refine wpQuiet_nil ?_
            intro y
            have HLy := Lib.hid (HL.out.on y.out)
            have HBy := Lib.hid (HB.out.trans (y.out.mono HB.out.size))
            go_wp2
            go_roundw
            case rel => exact ⟨k + 1, by omega, by go_num, by rw [HT.out]; exact HLy, HBy⟩
            case measure => simp [intOf]; omega
        · obtain rfl : k = M.length := by omega
          have HT : Hid (bst (p1, p2) (M.take M.length) = bst (p1, p2) M) := Lib.hid (by rw [List.take_length])
          have b0 := HL.out.b0
          have b1 := HL.out.b1
          rw [HT.out] at b0 b1
          have a0 := HL.out.r0
          have a1 := HL.out.r1
          have f0 := HL.out.rf 0
          have f1 := HL.out.rf 1
          obtain ⟨u, hu⟩ : ∃ u, bst (p1, p2) M = u := ⟨_, rfl⟩
          have HU := Lib.hid hu
          rw [hu] at b0 b1
          clear hu HT
          obtain ⟨X, hX⟩ : ∃ X, (wr.setCell ⟨w.heap.size + 1, 0, none⟩ (.int .i64 u.1)).setCell ⟨w.heap.size + 1, 1, none⟩ (.int .i64 u.2) = X := ⟨_, rfl⟩
          have w0 : X.cell? ⟨w.heap.size + 1, 0, none⟩ = some (.int .i64 u.1) := by rw [← hX, World.cell?_setCell_other _ _ _ _ (by simp)]; exact World.cell?_setCell_same _ _ _ a0
          have w1 : X.cell? ⟨w.heap.size + 1, 1, none⟩ = some (.int .i64 u.2) := by rw [← hX]; exact World.cell?_setCell_same _ _ _ ((World.cell?_setCell_other _ _ _ _ (by simp)).trans a1)
          have HBX : Below w.heap.size w X := by rw [← hX]; exact (HB.out.setCell (by simp) _).setCell (by simp) _
          go_wp2
          clear hX a0 a1 f0 f1 b0 b1
          refine bodyPost_ret (v := .tuple #[.agg #[.int .i64 u.1, .int .i64 u.2], .int .i64 0]) (by simp [results, Tryd.results24, go_sem, w0, w1]) rfl ⟨by rw [HU.out], HBX⟩
end Go.Proofs.YtfmoedlnjlkiiaaDoor
