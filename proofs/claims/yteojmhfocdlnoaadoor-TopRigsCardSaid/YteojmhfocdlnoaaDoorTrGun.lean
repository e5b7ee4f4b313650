/- The iterator of the links under one, up to its first round. -/
import Derived.Test.YteojmhfocdlnoaaDoorTrGup
import Derived.Test.YteojmhfocdlnoaaDoorTrIto
namespace Go.Proofs.YteojmhfocdlnoaaDoor.Tr
open Go.Proofs.YteojmhfocdlnoaaDoor
open Go.RowKit Go.Shelf
attribute [local go_sem] Oper.semAt_some

set_option maxRecDepth 100000 in
set_option maxHeartbeats 4000000 in
theorem under1_f1 (q : Nat) (hq : 1 ≤ q) (Bf Br : Nat) (al : Option Addr) (m capl : Nat) (lm : Nat → List UInt8) (lf : Nat → Int) (M : Nat → Prop) (w : World)
    (hm : m ≤ 1000) (i : Nat) (hi : i < m) (hf : w.cell? ⟨Bf, 0, none⟩ = some (.int .i64 (i : Nat))) (hr : w.cell? ⟨Br, 0, none⟩ = some (.slice al m capl)) (hL : LkAt w al m lm lf) :
    SeqF1 NoZ Fence.wide q Tryd.prog 50 #[.pointer (some ⟨Bf, 0, none⟩), .pointer (some ⟨Br, 0, none⟩)] (fun x : Nat => #[.int .i64 (x : Nat)]) (fun _ => False) M
      (fun pre x => pre = [] ∧ x < m ∧ lf x = (i : Nat)) (fun ys => ys = [] ∧ ∀ k, i < k → k < m → lf k ≠ (i : Nat)) (fun pre => ∃ x, pre = [x] ∧ x < m ∧ lf x = (i : Nat)) 0 w := by
  intro l J Jx W hW hl0 hl hJ hJx hOne hY h0
  have hf0 : Fr (fun _ => False) w W := (Fr.refl w).call hW
  have hf := hf0.cell (p := ⟨Bf, 0, none⟩) id hf
  have hr := hf0.cell (p := ⟨Br, 0, none⟩) id hr
  have hL := hL.fr hf0 (fun _ _ _ _ => id)
  have hBf := World.block_lt_of_cell? _ _ hf
  have hBr := World.block_lt_of_cell? _ _ hr
  refine callsIn_of_wp Tryd.func50 rfl trivial ?_ rfl
  simp only [Tryd.ntmps50, List.size_toArray, List.length_cons, List.length_nil, Nat.reduceAdd, Nat.reduceSub, Array.replicate_succ, Array.replicate_zero, List.push_toArray, List.append_toArray, List.nil_append, List.cons_append]
  have HY := Lib.hid hY
  have HO := Lib.hid hOne
  have HL := Lib.hid hL
  have hmI : (m : Int) ≤ 1000 := by omega
  have HJ := Lib.hid hJ
  clear hY hOne hJ hJx hW hL hf0
  have hiw : IntKind.i64.wrap ((i : Int) + 1) = (i : Int) + 1 := by rw [IntKind.wrap_i64]; omega
  have hJ0 := HJ.out _ _ (W.alloc (.cells #[.func (.yield l) #[] #[]] 54)) h0 ((Fr.refl W).alloc _)
  have HL0 := Lib.hid (HL.out.fr (M := fun _ => False) ((Fr.refl W).alloc (.cells #[.func (.yield l) #[] #[]] 54)) (fun _ _ _ _ => id))
  have HF0 := Lib.hid (((Fr.refl (M := fun _ => False) W).alloc (.cells #[.func (.yield l) #[] #[]] 54)).cell (p := ⟨Bf, 0, none⟩) id hf)
  have HR0 := Lib.hid (((Fr.refl (M := fun _ => False) W).alloc (.cells #[.func (.yield l) #[] #[]] 54)).cell (p := ⟨Br, 0, none⟩) id hr)
  have HB0 : Hid ((W.alloc (.cells #[.func (.yield l) #[] #[]] 54)).cell? ⟨W.heap.size, 0, none⟩ = some (.func (.yield l) #[] #[])) := Lib.hid (by simp [go_sem])
  gi_wp2
  gi_loopw [4] (fun v wr => ∃ k : Nat, (i < k ∧ k ≤ m) ∧ v = .int .i64 k ∧ Hid (∀ t, i < t → t < k → lf t ≠ (i : Nat)) ∧ J [] wr ∧ W.heap.size ≤ wr.heap.size ∧ Hid (LkAt wr al m lm lf) ∧ Hid (wr.cell? ⟨Bf, 0, none⟩ = some (.int .i64 (i : Nat))) ∧ Hid (wr.cell? ⟨Br, 0, none⟩ = some (.slice al m capl)) ∧ Hid (wr.cell? ⟨W.heap.size, 0, none⟩ = some (.func (.yield l) #[] #[]))) (fun v _ => m - (intOf v).toNat)
  case atStart => exact ⟨i + 1, ⟨by omega, by omega⟩, by first | rfl | go_num, Lib.hid (fun t h1 h2 => by omega), hJ0, by simp, HL0, HF0, HR0, HB0⟩
  case round =>
    clear hJ0 HL0 HF0 HR0 HB0 HL hf hr
    obtain ⟨k, hk, rfl, HN, hJk, hsz, HL, HF, HR, HB⟩ := hrel
    have f0 := HF.out
    have f1 := HR.out
    have f2 := HB.out
    by_cases hkm : k < m
    · have hkI : (k : Int) < (m : Int) := by omega
      obtain ⟨b, off, rfl, hb, c0, c1⟩ := HL.out k hkm
      by_cases he : lf k = (i : Nat)
      · have hne : (((i : Nat) : Int) != ((i : Nat) : Int)) = false := by simp
        have HE := Lib.hid he
        rw [he] at c1
        clear he
        have hJd := HJ.out _ _ wr.drew hJk ((Fr.refl wr).drew)
        obtain ⟨fn, tmps, assign, body, hy, hR⟩ := HY.out [] k wr.drew ⟨rfl, hkm, HE.out⟩ hJd (by simp; omega)
        have HRd := Lib.hid hR
        clear hR hJk HJ
        gi_wp2
        gi_region
        all_goals
          gi_wp2
          refine RoundIn.mono HRd.out ?_
          rintro e VV ⟨hf, (⟨rfl, hJ4⟩ | ⟨rfl, hJx3⟩)⟩
          · exact absurd hJ4 (HO.out _ _ _)
          · clear hf
            gi_wp2
            first
              | (go_end0; exact ⟨⟨_, rfl⟩, .inr ⟨_, ⟨k, rfl, hkm, HE.out⟩, hJx3⟩⟩)
              | (refine bodyPost_ret (results_none rfl _ _ _) rfl ?_; exact ⟨⟨_, rfl⟩, .inr ⟨_, ⟨k, rfl, hkm, HE.out⟩, hJx3⟩⟩)
      · have hne : (lf k != ((i : Nat) : Int)) = true := by simp [he]
        have HE := Lib.hid he
        clear he
        have hJd := HJ.out _ _ wr.drew hJk ((Fr.refl wr).drew)
        gi_wp2
        gi_region
        all_goals
          gi_wp2
          go_roundw
          case rel => exact ⟨k + 1, ⟨by omega, by omega⟩, by go_num, Lib.hid (fun t h1 h2 => by
            by_cases e : t = k
            · subst e; exact HE.out
            · exact HN.out t h1 (by omega)), hJd, hsz, HL, HF, HR, HB⟩
          case measure => simp [intOf]; omega
    · obtain rfl : k = m := by omega
      gi_wp2
      go_end0
      exact ⟨⟨_, rfl⟩, .inl ⟨_, ⟨rfl, HN.out⟩, hJk⟩⟩
end Go.Proofs.YteojmhfocdlnoaaDoor.Tr
