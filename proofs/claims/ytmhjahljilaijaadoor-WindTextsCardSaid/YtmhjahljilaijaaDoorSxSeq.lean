/- strings.SplitSeq at a blank: its contract as an iterator. -/
import Derived.Test.YtmhjahljilaijaaDoorTxItz
import Derived.Test.YtmhjahljilaijaaDoorTxJoinw
import Derived.Test.YtmhjahljilaijaaDoorShelf
import Derived.ControlIn
namespace Go.Proofs.YtmhjahljilaijaaDoor.Tx
open Go.Proofs.YtmhjahljilaijaaDoor
open Go.RowKit Go.Shelf
attribute [local go_sem] Oper.semAt_some tx_size

section
variable {P : Program} (w : World) {t : TypeId} (ht : P.underlying t = some .string)
include ht
theorem run_tx_to (s : List UInt8) (b : Nat) (h : b ≤ s.length) : (Instr.slice t (.string (tx s)) none (some (.int .i64 (b : Nat))) none).run P w = .ok (.string (tx (s.take b))) w := by
  rw [run_slice_string_to_if w t _ _ _ ht, if_pos ⟨by omega, by rw [tx_size]; omega⟩]
  congr 2
  simp only [Int.toNat_natCast]
  apply ByteArray.ext
  simp [tx, ByteArray.data_extract]
end
def NoO (_ : Obj) : Prop := False
set_option maxRecDepth 1000000 in
set_option maxHeartbeats 2000000 in
theorem split_fr (m : Nat) (hm : 1 ≤ m) (Bp Bs Bv : Nat) (s : List UInt8) (M : Nat → Prop) (hMs : ¬ M Bs) (hMp : ¬ M Bp) (hMv : ¬ M Bv) (hps : Bp ≠ Bs) (hvs : Bv ≠ Bs) (w : World) (hs : s.length ≤ 65536)
    (hp : w.cell? ⟨Bp, 0, none⟩ = some (.string ⟨#[32]⟩)) (hx : w.cell? ⟨Bs, 0, none⟩ = some (.string (tx s))) (hv : w.cell? ⟨Bv, 0, none⟩ = some (.int .i64 0)) (hz : w.frozen? ⟨Bs, 0, none⟩ = false) :
    SeqFr NoO Fence.wide m Tryd.prog 44 #[.pointer (some ⟨Bp, 0, none⟩), .pointer (some ⟨Bs, 0, none⟩), .pointer (some ⟨Bv, 0, none⟩)] (fun x : List UInt8 => #[.string (tx x)]) (fun i => i = Bs) M
      (fun pre x => ∃ r, wordsL 32 s = pre ++ x :: r) (fun ys => ys = wordsL 32 s) (fun _ => True) 0 w := by
  intro l J Jx W hW hl0 hl hJ hJx hY h0
  have hbs : Bs < w.heap.size := World.block_lt_of_cell? w _ hx
  have hbp : Bp < w.heap.size := World.block_lt_of_cell? w _ hp
  have hbv : Bv < w.heap.size := World.block_lt_of_cell? w _ hv
  have hx := (hW.cell (p := ⟨Bs, 0, none⟩) hbs).trans hx
  have hp := (hW.cell (p := ⟨Bp, 0, none⟩) hbp).trans hp
  have hv := (hW.cell (p := ⟨Bv, 0, none⟩) hbv).trans hv
  have hz := (World.frozen?_of_block (a := ⟨Bs, 0, none⟩) (hW.block Bs hbs)).trans hz
  have hS := hW.size
  refine callsIn_of_wp Tryd.func44 rfl trivial ?_ rfl
  simp only [Tryd.ntmps44, List.size_toArray, List.length_cons, List.length_nil, Nat.reduceAdd, Nat.reduceSub, Array.replicate_succ, Array.replicate_zero, List.push_toArray, List.append_toArray, List.nil_append, List.cons_append]
  have HY := Lib.hid hY
  have HJ := Lib.hid hJ
  clear hY hJ hJx hW
  gi_wp2
  gi_loopw [] (fun wr => ∃ r q, wordsL 32 s = q ++ wordsL 32 r ∧ r.length ≤ 65536 ∧ J q wr ∧ W.heap.size ≤ wr.heap.size ∧ wr.cell? ⟨Bs, 0, none⟩ = some (.string (tx r)) ∧ wr.cell? ⟨Bp, 0, none⟩ = some (.string ⟨#[32]⟩) ∧ wr.cell? ⟨Bv, 0, none⟩ = some (.int .i64 0) ∧ wr.frozen? ⟨Bs, 0, none⟩ = false) (fun w => match w.cell? ⟨Bs, 0, none⟩ with | some (.string x) => x.size | _ => 0)
  case atStart => exact ⟨s, [], rfl, hs, h0, Nat.le_refl _, hx, hp, hv, hz⟩
  case round =>
    obtain ⟨r, q, hr, hrl, hJq, hsz, hx, hp, hv, hzr⟩ := hrel
    have HI := Lib.hid (fun w => Tryd.strings_Index_one (tx r) 32 w)
    gi_wp2
    refine ⟨trivial, (callsIn_wide.2 (HI.out wr)).mono ?_⟩
    rintro e W2 ⟨rfl, rfl⟩
    have hd : (tx r).data.toList = r := rfl
    rw [hd]
    have hg := Lib.indexByte_ge r 32
    by_cases hx1 : Lib.indexByte r 32 = -1
    · rw [hx1]
      have hw1 : wordsL 32 r = [r] := words_miss hx1
      have HE : Hid (q ++ [r] = wordsL 32 s) := Lib.hid (by rw [hr, hw1])
      obtain ⟨fn, tmps, assign, body, hy, hR⟩ := HY.out q r W2 ⟨[], by rw [hr, hw1]⟩ hJq (by simpa using hsz)
      have HR := Lib.hid hR
      clear hR HY
      gi_wp2
      refine HR.out.mono ?_
      rintro e W3 ⟨hf, (⟨rfl, hJ4⟩ | ⟨rfl, hJx3⟩)⟩
      · gi_wp2
        go_end0
        exact ⟨⟨_, rfl⟩, .inl ⟨_, HE.out, hJ4⟩⟩
      · gi_wp2
        go_end0
        exact ⟨⟨_, rfl⟩, .inr ⟨_, trivial, hJx3⟩⟩
    · obtain ⟨i, hi⟩ : ∃ i : Nat, Lib.indexByte r 32 = i := ⟨(Lib.indexByte r 32).toNat, by omega⟩
      have hlt : i < r.length := (List.getElem?_eq_some_iff.1 (Lib.indexByte_some hi).1).1
      have hw1 : wordsL 32 r = r.take i :: wordsL 32 (r.drop (i + 1)) := words_hit hi
      have HE : Hid (wordsL 32 s = (q ++ [r.take i]) ++ wordsL 32 (r.drop (i + 1))) := Lib.hid (by rw [hr, hw1]; simp)
      have hnx : ∃ r', wordsL 32 s = q ++ r.take i :: r' := ⟨_, by rw [hr, hw1]⟩
      rw [hi]
      have hge : ¬ ((i : Int) < 0) := by omega
      have hto : ∀ w, (Instr.slice 9 (.string (tx r)) none (some (.int .i64 (i : Nat))) none).run Tryd.prog w = .ok (.string (tx (r.take i))) w := fun w => run_tx_to (P := Tryd.prog) w Tryd.underlying9 r i (by omega)
      have hfrom : ∀ w, (Instr.slice 9 (.string (tx r)) (some (.int .i64 ((i : Int) + 1))) none none).run Tryd.prog w = .ok (.string (tx (r.drop (i + 1)))) w := fun w => run_tx_from (P := Tryd.prog) w Tryd.underlying9 r (i + 1) hlt
      have hin : (i : Int) < 65536 := by omega
      have hlen : (r.drop (i + 1)).length < r.length := by rw [List.length_drop]; omega
      obtain ⟨fn, tmps, assign, body, hy, hR⟩ := HY.out q (r.take i) W2 hnx hJq (by simpa using hsz)
      have HR := Lib.hid hR
      have hr2l : (r.drop (i + 1)).length ≤ 65536 := by omega
      have HL2 := Lib.hid (And.intro hlen hr2l)
      clear hR HY hnx hw1 hr hi hg hx1 hrl hs hlen hr2l hlt
      generalize r.drop (i + 1) = r2 at *
      generalize r.take i = x at *
      gi_wp2
      refine HR.out.mono ?_
      rintro e W3 ⟨hf, (⟨rfl, hJ4⟩ | ⟨rfl, hJx3⟩)⟩
      · have nb : ∀ B, B < w.heap.size → ¬ M B → ¬ (B = l ∨ RndM NoO M (W.heap.size + 0) W2 B) := fun B h1 h3 h => by
          rcases h with h | h | h
          · omega
          · exact h3 h
          · omega
        have hx3 := hf.cell (p := ⟨Bs, 0, none⟩) (nb _ hbs hMs) hx
        have hp3 := hf.cell (p := ⟨Bp, 0, none⟩) (nb _ hbp hMp) hp
        have hv3 := hf.cell (p := ⟨Bv, 0, none⟩) (nb _ hbv hMv) hv
        have hz3 := (hf.frozen (p := ⟨Bs, 0, none⟩) (nb _ hbs hMs) (by dsimp only; omega)).trans hzr
        have hs3 := hf.size
        have hJ5 := HJ.out _ _ (W3.setCell ⟨Bs, 0, none⟩ (.string (tx r2))) hJ4 ((Fr.refl _).setCell (.inl (.inl rfl)) _)
        have F5 : Fr (fun j => j = Bs) W3 (W3.setCell ⟨Bs, 0, none⟩ (.string (tx r2))) := Fr.setCell (M := fun j => j = Bs) (Fr.refl W3) (p := ⟨Bs, 0, none⟩) (.inl rfl) _
        have hx5 : (W3.setCell ⟨Bs, 0, none⟩ (.string (tx r2))).cell? ⟨Bs, 0, none⟩ = some (.string (tx r2)) := World.cell?_setCell_same _ _ _ hx3
        have HP5 := Lib.hid (F5.cell (p := ⟨Bp, 0, none⟩) hps hp3)
        have HV5 := Lib.hid (F5.cell (p := ⟨Bv, 0, none⟩) hvs hv3)
        have HX5 := Lib.hid hx5
        have HJ5 := Lib.hid hJ5
        clear hf hJ4 hJ5 hx5 F5 nb
        gi_wp2
        go_roundw
        case rel => exact ⟨r2, q ++ [x], HE.out, HL2.out.2, HJ5.out, by simpa using (by omega : W.heap.size ≤ W3.heap.size), HX5.out, HP5.out, HV5.out, by simpa using hz3⟩
        case measure => rw [HX5.out, hx]; simpa [tx_size] using HL2.out.1
      · clear hf
        gi_wp2
        refine bodyPost_ret (results_none rfl _ _ _) rfl ?_
        exact ⟨⟨_, rfl⟩, .inr ⟨_, trivial, hJx3⟩⟩
end Go.Proofs.YtmhjahljilaijaaDoor.Tx
