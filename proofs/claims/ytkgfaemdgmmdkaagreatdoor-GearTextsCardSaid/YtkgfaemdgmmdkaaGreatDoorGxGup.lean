/- The iterator from a link up: its contract. -/
import Derived.Test.YtkgfaemdgmmdkaaGreatDoorGxGen
import Derived.Test.YtkgfaemdgmmdkaaGreatDoorGxItz
import Derived.ControlIn
namespace Go.Proofs.YtkgfaemdgmmdkaaGreatDoor.Gx
open Go.Proofs.YtkgfaemdgmmdkaaGreatDoor
open Go.RowKit Go.Shelf
attribute [local go_sem] Oper.semAt_some

/-- The links from one up. -/
def upL (lf : Nat → Int) : Nat → Int → List Nat
  | 0, _ => []
  | d + 1, x => if x < 0 then [] else x.toNat :: upL lf d (lf x.toNat)
theorem upL_end (lf : Nat → Int) {d : Nat} {x : Int} (h : x < 0) : upL lf d x = [] := by
  cases d with
  | zero => rfl
  | succ d => unfold upL; rw [if_pos h]
theorem upL_step (lf : Nat → Int) {d k : Nat} : upL lf (d + 1) (k : Nat) = k :: upL lf d (lf k) := by
  show (if ((k : Nat) : Int) < 0 then [] else ((k : Nat) : Int).toNat :: upL lf d (lf ((k : Nat) : Int).toNat)) = _
  rw [if_neg (by omega), Int.toNat_natCast]
theorem LkAt.fr {M : Nat → Prop} {w W : World} {a : Option Addr} {n : Nat} {lm : Nat → List UInt8} {lf : Nat → Int} (h : LkAt w a n lm lf) (hf : Fr M w W) (hM : ∀ b off, a = some ⟨b, off, none⟩ → 0 < n → ¬ M b) : LkAt W a n lm lf := fun k hk => by
  obtain ⟨b, off, e, h1, h2, h3⟩ := h k hk
  have nm := hM b off e (by omega)
  exact ⟨b, off, e, Nat.lt_of_lt_of_le h1 hf.size, hf.cell (p := ⟨b, off + k * 2, none⟩) nm h2, hf.cell (p := ⟨b, off + k * 2 + 1, none⟩) nm h3⟩
def NoZ (_ : Obj) : Prop := False
set_option maxRecDepth 100000 in
set_option maxHeartbeats 4000000 in
theorem up1_fr (q : Nat) (hq : 1 ≤ q) (Bf Br : Nat) (al : Option Addr) (m capl : Nat) (lm : Nat → List UInt8) (lf : Nat → Int) (M : Nat → Prop) (w : World) (hMm : ∀ i, M i → i < w.heap.size) (hMr : ¬ M Br) (hMb : ∀ b off, al = some ⟨b, off, none⟩ → 0 < m → ¬ M b)
    (hm : m ≤ 1000) (i : Nat) (hi : i < m) (hv : ∀ k, k < m → lf k < k ∧ -1 ≤ lf k) (hf : w.cell? ⟨Bf, 0, none⟩ = some (.int .i64 (i : Nat))) (hr : w.cell? ⟨Br, 0, none⟩ = some (.slice al m capl)) (hL : LkAt w al m lm lf) :
    SeqFr NoZ Fence.wide q Tryz.prog 59 #[.pointer (some ⟨Bf, 0, none⟩), .pointer (some ⟨Br, 0, none⟩)] (fun x : Nat => #[.int .i64 (x : Nat)]) (fun _ => False) M
      (fun pre x => ∃ r, upL lf (m + 1) (i : Nat) = pre ++ x :: r) (fun ys => ys = upL lf (m + 1) (i : Nat)) (fun _ => True) 0 w := by
  intro l J Jx W hW hl0 hl hJ hJx hY h0
  have _ := hMm
  have hab : ∀ b off, al = some ⟨b, off, none⟩ → 0 < m → b < w.heap.size := fun b off e h => by
    obtain ⟨b', off', e', h1, _⟩ := hL 0 h
    rw [e] at e'; cases e'; exact h1
  have hBr := World.block_lt_of_cell? _ _ hr
  have hf0 : Fr (fun _ => False) w W := (Fr.refl w).call hW
  have hf := hf0.cell (p := ⟨Bf, 0, none⟩) id hf
  have hr := hf0.cell (p := ⟨Br, 0, none⟩) id hr
  have hL := hL.fr hf0 (fun _ _ _ _ => id)
  have hS := hW.size
  refine callsIn_of_wp Tryz.func59 rfl trivial ?_ rfl
  simp only [Tryz.ntmps59, List.size_toArray, List.length_cons, List.length_nil, Nat.reduceAdd, Nat.reduceSub, Array.replicate_succ, Array.replicate_zero, List.push_toArray, List.append_toArray, List.nil_append, List.cons_append]
  have HY := Lib.hid hY
  have HJ := Lib.hid hJ
  have HL := Lib.hid hL
  have HV := Lib.hid hv
  have HR := Lib.hid hr
  have hmI : (m : Int) ≤ 1000 := by omega
  clear hY hJ hJx hW hL hf0 hv hr
  gi_wp2
  gi_loopw [4] (fun v wr => ∃ (x : Int) (pre : List Nat) (d : Nat), v = .int .i64 x ∧ Hid (upL lf (m + 1) (i : Nat) = pre ++ upL lf d x) ∧ (-1 ≤ x ∧ x < m ∧ x < d) ∧ J pre wr ∧ W.heap.size ≤ wr.heap.size ∧ Hid (LkAt wr al m lm lf) ∧ Hid (wr.cell? ⟨Br, 0, none⟩ = some (.slice al m capl))) (fun v _ => (intOf v + 1).toNat)
  case atStart => exact ⟨_, [], m + 1, rfl, Lib.hid rfl, ⟨by omega, by omega, by omega⟩, h0, Nat.le_refl _, HL, HR⟩
  case round =>
    obtain ⟨x, pre, d, rfl, HE, hx, hJ, hsz, HL, HR⟩ := hrel
    by_cases hx1 : x = -1
    · have HS : Hid (pre = upL lf (m + 1) (i : Nat)) := Lib.hid (by rw [HE.out, upL_end lf (by omega), List.append_nil])
      subst hx1
      clear HY
      gi_wp2
      refine ⟨fun _ h => (by cases h), ?_⟩
      gi_wp2
      go_end0
      exact ⟨⟨_, rfl⟩, .inl ⟨_, HS.out, hJ⟩⟩
    · obtain ⟨k, rfl⟩ : ∃ k : Nat, x = (k : Int) := ⟨x.toNat, by omega⟩
      obtain ⟨d, rfl⟩ : ∃ d', d = d' + 1 := ⟨d - 1, by omega⟩
      have HE2 : Hid (upL lf (m + 1) (i : Nat) = (pre ++ [k]) ++ upL lf d (lf k)) := Lib.hid (by rw [HE.out, upL_step]; simp)
      have hb : ((k : Int) != -1) = true := by first | (simp; done) | (simp; omega)
      have hkm : k < m := by omega
      have hkI : (k : Int) < (m : Int) := by omega
      have hlf := HV.out k hkm
      have hYk := HY.out pre k wr ⟨upL lf d (lf k), by rw [HE.out, upL_step]⟩ hJ (by omega)
      obtain ⟨fn, tmps, assign, body, hy, hR⟩ := hYk
      have HRd := Lib.hid hR
      clear hR HE hx1 hJ
      gi_wp2
      refine RoundIn.mono HRd.out ?_
      rintro e VV ⟨hf, (⟨rfl, hJ4⟩ | ⟨rfl, hJx3⟩)⟩
      · have nb : ∀ B, B < w.heap.size → ¬ M B → ¬ (B = l ∨ RndM NoZ M (W.heap.size + 0) wr B) := fun B h1 h3 h => by
          rcases h with h | h | h
          · omega
          · exact h3 h
          · omega
        have HLV := Lib.hid (HL.out.fr hf (fun b' off' e h => nb _ (hab b' off' e h) (hMb b' off' e h)))
        have hRV := hf.cell (p := ⟨Br, 0, none⟩) (nb _ hBr hMr) HR.out
        have HRV := Lib.hid hRV
        have hs3 := hf.size
        have HJc := Lib.hid hJ4
        obtain ⟨b, off, ea, hb', c0, c1⟩ := HLV.out k hkm
        subst ea
        clear hf hJ4 nb HL HR
        gi_wp2
        go_roundw
        case rel => exact ⟨lf k, pre ++ [k], d, rfl, HE2, ⟨by omega, by omega, by omega⟩, HJc.out, by omega, HLV, HRV⟩
        case measure => simp [intOf]; omega
      · clear hf
        gi_wp2
        go_end0
        exact ⟨⟨_, rfl⟩, .inr ⟨_, trivial, hJx3⟩⟩
end Go.Proofs.YtkgfaemdgmmdkaaGreatDoor.Gx
