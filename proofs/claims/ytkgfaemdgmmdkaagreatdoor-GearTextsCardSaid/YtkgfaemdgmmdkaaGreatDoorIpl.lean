/- strings.Lines over a text: its contract as an iterator (after T4's XLns, over Itz); lines of gear, as mathematics. -/
import Derived.Test.YtkgfaemdgmmdkaaGreatDoorGxItz
import Derived.Test.YtkgfaemdgmmdkaaGreatDoorGxSplitt
import Derived.Test.YtkgfaemdgmmdkaaGreatDoorIpm
import Derived.ControlIn
namespace Go.Proofs.YtkgfaemdgmmdkaaGreatDoor.Gx
open Go.Proofs.YtkgfaemdgmmdkaaGreatDoor
open Go.RowKit Go.Shelf
attribute [local go_sem] Oper.semAt_some tx_size

/-- What comes next behind the pieces pre of the text s. -/
def nxL (s : List UInt8) (pre : List (List UInt8)) (x : List UInt8) : Prop := ∃ r, s = pre.flatten ++ (x ++ r) ∧ ((∃ y, x = y ++ [10] ∧ (10 : UInt8) ∉ y) ∨ (x ≠ [] ∧ (10 : UInt8) ∉ x ∧ r = []))
theorem nxL_cut {s : List UInt8} {q : List (List UInt8)} {r : List UInt8} {i : Nat} (hr : s = q.flatten ++ r) (h : Lib.indexByte r 10 = i) : i < r.length ∧ nxL s q (r.take (i + 1)) ∧ s = (q ++ [r.take (i + 1)]).flatten ++ r.drop (i + 1) := by
  have hsm := Lib.indexByte_some h
  have hlt := (List.getElem?_eq_some_iff.1 hsm.1).1
  refine ⟨hlt, ⟨r.drop (i + 1), by rw [List.take_append_drop]; exact hr, .inl ⟨r.take i, ?_, ?_⟩⟩, by rw [List.flatten_append]; simp [hr]⟩
  · rw [List.take_add_one, hsm.1]; rfl
  · intro hm
    obtain ⟨j, hj⟩ := List.mem_iff_getElem?.1 hm
    have hjl := (List.getElem?_eq_some_iff.1 hj).1
    rw [List.length_take] at hjl
    rw [List.getElem?_take_of_lt (by omega)] at hj
    exact hsm.2 j (by omega) hj
theorem nxL_last {s : List UInt8} {q : List (List UInt8)} {r : List UInt8} (hr : s = q.flatten ++ r) (h : Lib.indexByte r 10 = -1) (hn : r ≠ []) : nxL s q r ∧ s = (q ++ [r]).flatten := by
  refine ⟨⟨[], by rw [List.append_nil]; exact hr, .inr ⟨hn, fun hm => ?_, rfl⟩⟩, by rw [List.flatten_append]; simp [hr]⟩
  obtain ⟨j, hj⟩ := List.mem_iff_getElem?.1 hm
  exact Lib.indexByte_none h j hj
def NoO (_ : Obj) : Prop := False

set_option maxRecDepth 100000 in
set_option maxHeartbeats 2000000 in
theorem lines_fr (m : Nat) (hm : 1 ≤ m) (Bx : Nat) (s : List UInt8) (M : Nat → Prop) (hMx : ¬ M Bx) (w : World) (hs : s.length ≤ 65536)
    (hx : w.cell? ⟨Bx, 0, none⟩ = some (.string (tx s))) (hz : w.frozen? ⟨Bx, 0, none⟩ = false) :
    SeqFr NoO Fence.wide m Tryz.prog 37 #[.pointer (some ⟨Bx, 0, none⟩)] (fun x : List UInt8 => #[.string (tx x)]) (fun i => i = Bx) M (nxL s) (fun ys => s = ys.flatten) (fun _ => True) 0 w := by
  intro l J Jx W hW hl0 hl hJ hJx hY h0
  have hbx : Bx < w.heap.size := World.block_lt_of_cell? w _ hx
  have hx := (hW.cell (p := ⟨Bx, 0, none⟩) hbx).trans hx
  have hz := (World.frozen?_of_block (a := ⟨Bx, 0, none⟩) (hW.block Bx hbx)).trans hz
  have hS := hW.size
  refine callsIn_of_wp Tryz.func37 rfl trivial ?_ rfl
  simp only [Tryz.ntmps37, List.size_toArray, List.length_cons, List.length_nil, Nat.reduceAdd, Nat.reduceSub, Array.replicate_succ, Array.replicate_zero, List.push_toArray, List.append_toArray, List.nil_append, List.cons_append]
  have HY := Lib.hid hY
  have HJ := Lib.hid hJ
  clear hY hJ hJx hW
  gi_wp2
  gi_loopw [] (fun wr => ∃ r q, s = q.flatten ++ r ∧ J q wr ∧ W.heap.size ≤ wr.heap.size ∧ wr.cell? ⟨Bx, 0, none⟩ = some (.string (tx r)) ∧ wr.frozen? ⟨Bx, 0, none⟩ = false) (fun w => match w.cell? ⟨Bx, 0, none⟩ with | some (.string x) => x.size | _ => 0)
  case atStart => exact ⟨s, [], rfl, h0, Nat.le_refl _, hx, hz⟩
  case round =>
    obtain ⟨r, q, hr, hJq, hsz, hx, hzr⟩ := hrel
    have hrl : r.length ≤ 65536 := by have := congrArg List.length hr; rw [List.length_append] at this; omega
    by_cases hn : r = []
    · subst hn
      have hgt : ¬ ((0 : Int) < (tx []).size) := by rw [tx_size]; decide
      gi_wp2
      go_end0
      exact ⟨⟨_, rfl⟩, .inl ⟨q, by first | simp | simpa using hr, hJq⟩⟩
    · have hpos : 0 < r.length := List.length_pos_iff.2 hn
      have HI := Lib.hid (fun w => Tryz.strings_IndexByte (tx r) 10 w)
      gi_wp2
      refine ⟨trivial, (callsIn_wide.2 (HI.out wr)).mono ?_⟩
      rintro e W2 ⟨rfl, rfl⟩
      have hd : (tx r).data.toList = r := rfl
      have h10 : (Int.toNat 10).toUInt8 = (10 : UInt8) := by decide
      rw [hd, h10]
      have hg := Lib.indexByte_ge r 10
      by_cases hx1 : Lib.indexByte r 10 = -1
      · rw [hx1]
        obtain ⟨n1, n2⟩ := nxL_last hr hx1 hn
        have hJ2 := HJ.out q _ (W2.setCell ⟨Bx, 0, none⟩ (.string { data := #[] })) hJq ((Fr.refl _).setCell (.inl (.inl rfl)) _)
        obtain ⟨fn, tmps, assign, body, hy, hR⟩ := HY.out q r (W2.setCell ⟨Bx, 0, none⟩ (.string { data := #[] })) n1 hJ2 (by simpa using hsz)
        have HR := Lib.hid hR
        clear hR HY hJ2
        gi_wp2
        refine HR.out.mono ?_
        rintro e W3 ⟨hf, (⟨rfl, hJ4⟩ | ⟨rfl, hJx3⟩)⟩
        · have nx : ¬ (Bx = l ∨ RndM NoO M (W.heap.size + 0) (W2.setCell ⟨Bx, 0, none⟩ (.string { data := #[] })) Bx) := fun h => by
            rcases h with h | h | h
            · omega
            · exact hMx h
            · omega
          have hx3 := hf.cell (p := ⟨Bx, 0, none⟩) nx (v := .string (tx [])) (by simp [go_sem, hx]; rfl)
          have hz3 := (hf.frozen (p := ⟨Bx, 0, none⟩) nx (by simp; omega)).trans (b := (W2.setCell ⟨Bx, 0, none⟩ (.string { data := #[] })).frozen? ⟨Bx, 0, none⟩) (c := false) (by simpa using hzr)
          have hs3 := hf.size
          simp only [World.size_setCell] at hs3
          clear hf
          have HJ4 := Lib.hid hJ4
          clear hJ4
          gi_wp2
          go_roundw
          case rel => exact ⟨[], q ++ [r], by rw [List.append_nil]; exact n2, HJ4.out, by omega, hx3, hz3⟩
          case measure => rw [hx3, hx]; simpa [tx_size] using hpos
        · clear hf
          gi_wp2
          refine bodyPost_ret (results_none rfl _ _ _) rfl ?_
          exact ⟨⟨_, rfl⟩, .inr ⟨_, trivial, hJx3⟩⟩
      · obtain ⟨i, hi⟩ : ∃ i : Nat, Lib.indexByte r 10 = i := ⟨(Lib.indexByte r 10).toNat, by omega⟩
        obtain ⟨hlt, n1, n2⟩ := nxL_cut hr hi
        rw [hi]
        have hge : ¬ ((i : Int) < 0) := by omega
        have hto : ∀ w, (Instr.slice 9 (.string (tx r)) none (some (.int .i64 ((i : Int) + 1))) none).run Tryz.prog w = .ok (.string (tx (r.take (i + 1)))) w := fun w => run_tx_to (P := Tryz.prog) w Tryz.underlying9 r (i + 1) hlt
        have hfrom : ∀ w, (Instr.slice 9 (.string (tx r)) (some (.int .i64 ((i : Int) + 1))) none none).run Tryz.prog w = .ok (.string (tx (r.drop (i + 1)))) w := fun w => run_tx_from (P := Tryz.prog) w Tryz.underlying9 r (i + 1) hlt
        have hin : (i : Int) < 65536 := by omega
        gi_wp2
        refine wpIn_wide.2 ?_
        go_region
        clear hto hfrom
        have hJ2 := HJ.out q _ (W2.setCell ⟨Bx, 0, none⟩ (.string (tx (r.drop (i + 1))))).drew hJq (((Fr.refl _).setCell (.inl (.inl rfl)) _).drew)
        obtain ⟨fn, tmps, assign, body, hy, hR⟩ := HY.out q (r.take (i + 1)) (W2.setCell ⟨Bx, 0, none⟩ (.string (tx (r.drop (i + 1))))).drew n1 hJ2 (by simpa using hsz)
        have HR := Lib.hid hR
        clear hR HY hJ2
        obtain ⟨V, hV⟩ : ∃ V, (W2.setCell ⟨Bx, 0, none⟩ (.string (tx (r.drop (i + 1))))).drew = V := ⟨_, rfl⟩
        have hxv : V.cell? ⟨Bx, 0, none⟩ = some (.string (tx (r.drop (i + 1)))) := by rw [← hV]; simp [go_sem, hx]
        have hzv : V.frozen? ⟨Bx, 0, none⟩ = false := by rw [← hV]; simpa [go_sem] using hzr
        have hsv : V.heap.size = W2.heap.size := by rw [← hV]; simp
        rw [hV] at hy HR ⊢
        clear hV
        have hlen : (r.drop (i + 1)).length < r.length := by rw [List.length_drop]; omega
        generalize r.drop (i + 1) = r2 at *
        generalize r.take (i + 1) = x at *
        gi_wp2
        refine HR.out.mono ?_
        rintro e W3 ⟨hf, (⟨rfl, hJ4⟩ | ⟨rfl, hJx3⟩)⟩
        · have nx : ¬ (Bx = l ∨ RndM NoO M (W.heap.size + 0) V Bx) := fun h => by
            rcases h with h | h | h
            · omega
            · exact hMx h
            · omega
          have hx3 := hf.cell (p := ⟨Bx, 0, none⟩) nx hxv
          have hz3 := (hf.frozen (p := ⟨Bx, 0, none⟩) nx (by simp; omega)).trans hzv
          have hs3 := hf.size
          clear hf
          have HJ4 := Lib.hid hJ4
          clear hJ4
          gi_wp2
          go_roundw
          case rel => exact ⟨r2, q ++ [x], n2, HJ4.out, by omega, hx3, hz3⟩
          case measure => rw [hx3, hx]; simpa [tx_size] using hlen
        · clear hf
          gi_wp2
          refine bodyPost_ret (results_none rfl _ _ _) rfl ?_
          exact ⟨⟨_, rfl⟩, .inr ⟨_, trivial, hJx3⟩⟩
/-- A line that is no item's, or with whose item the gear is not valid, ends the reading. -/
theorem lineI_bad {s x : List UInt8} {pre : List (List UInt8)} {ps : List It} (hp : pre.flatten = formI ps) (hG : GoodI ps) (hx : nxL s pre x) (hb : ∀ q, InI q → x = itL q ++ [10] → ¬ GoodI (ps ++ [q])) : StopsI (wordsL 10 s) ps.length := by
  obtain ⟨r, hs, ⟨y, rfl, hy⟩ | ⟨hn, hy, rfl⟩⟩ := hx
  · have e : wordsL 10 s = ps.map itL ++ y :: wordsL 10 r := by
      rw [hs, hp, formI_behind (goodI_nl hG), List.append_assoc, List.singleton_append, words_app 10 y r hy]
    rw [e]
    refine ⟨ps, pi_behind hG _, rfl, .inl ⟨?_, fun t p ht hp2 hg => ?_⟩⟩
    · have : 1 ≤ (wordsL 10 r).length := by simp [wordsL]
      simp; omega
    · rw [List.getElem?_append_right (by simp)] at ht
      simp at ht
      exact hb p (goodI_last hg) (by rw [ht, hp2]) hg
  · have e : wordsL 10 s = ps.map itL ++ [x] := by
      rw [hs, hp, formI_behind (goodI_nl hG), List.append_nil, words_one 10 x hy]
    rw [e]
    refine ⟨ps, pi_behind hG _, rfl, .inr ⟨by simp, ?_⟩⟩
    rw [List.getElem?_append_right (by simp)]
    simpa using hn
theorem lineI_good {pre : List (List UInt8)} {ps : List It} {q : It} (hp : pre.flatten = formI ps) : (pre ++ [itL q ++ [10]]).flatten = formI (ps ++ [q]) := by
  rw [List.flatten_append, hp, formI_snoc]
  simp
theorem linesI_done {s : List UInt8} {xs : List (List UInt8)} {ps : List It} (hs : s = xs.flatten) (hp : xs.flatten = formI ps) (hG : GoodI ps) : WholeI (wordsL 10 s) ps := by
  rw [hs, hp]
  exact formI_whole hG
end Go.Proofs.YtkgfaemdgmmdkaaGreatDoor.Gx
