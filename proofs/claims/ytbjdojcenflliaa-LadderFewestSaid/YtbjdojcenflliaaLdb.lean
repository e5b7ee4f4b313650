/- slices.Backward over places: its contract as an iterator. -/
import Derived.Test.YtbjdojcenflliaaLdu
namespace Go.Proofs.Ytbjdojcenflliaa
open Go.RowKit Go.Shelf
attribute [local go_sem] Oper.semAt_some

/-- The indexes n - 1 .. k, downwards. -/
def dwn (n k : Nat) : List Nat := (List.range (n - k)).map fun j => n - 1 - j
theorem dwn_top (n : Nat) : dwn n n = [] := by simp [dwn]
theorem dwn_next {n k : Nat} (h : k < n) : dwn n (k + 1) ++ [k] = dwn n k := by
  unfold dwn
  rw [show n - k = (n - (k + 1)) + 1 by omega, List.range_succ, List.map_append]
  simp; omega
theorem dwn_len (n k : Nat) : (dwn n k).length = n - k := by simp [dwn]
theorem backward_any (a : Option Addr) (n cap : Nat) (w : World) :
    Calls Try.prog 77 #[.slice a n cap] w fun e w' => e = .returned (.func (.func 81) #[] #[.pointer (some ⟨w.heap.size, 0, none⟩)]) ∧ w.alloc (.cells #[.slice a n cap] 58) = w' := by
  go_enter Try.func77, Try.ntmps77
  go_wp2
  go_ret
  exact ⟨rfl, rfl⟩
set_option maxRecDepth 100000 in
set_option maxHeartbeats 4000000 in
theorem backward1_fr (q : Nat) (hq : 1 ≤ q) (Bx : Nat) (a : Option Addr) (n cap : Nat) (hg : Nat → Int) (us : Nat → Bool) (M : Nat → Prop) (w : World) (hMx : ¬ M Bx) (hMb : ∀ b off, a = some ⟨b, off, none⟩ → 0 < n → ¬ M b)
    (hn : n ≤ 1000) (hx : w.cell? ⟨Bx, 0, none⟩ = some (.slice a n cap)) (hA : JtAt w a n hg us) :
    SeqFr NoZ3 Fence.wide q Try.prog 81 #[.pointer (some ⟨Bx, 0, none⟩)] (fun x : Nat => #[.int .i64 (x : Nat), .agg #[.int .i64 (hg x), .bool (us x)]]) (fun _ => False) M
      (fun pre x => x < n ∧ pre = dwn n (x + 1)) (fun ys => ys = dwn n 0) (fun _ => True) 0 w := by
  intro l J Jx W hW hl0 hl hJ hJx hY h0
  have hBx := World.block_lt_of_cell? _ _ hx
  have hab : ∀ b off, a = some ⟨b, off, none⟩ → 0 < n → b < w.heap.size := fun b off e h => by
    obtain ⟨b', off', e', h1, _⟩ := hA 0 h
    rw [e] at e'; cases e'; exact h1
  have hf0 : Fr (fun _ => False) w W := (Fr.refl w).call hW
  have hx := hf0.cell (p := ⟨Bx, 0, none⟩) id hx
  have hA := hA.fr hf0 (fun _ _ _ _ => id)
  have hS := hW.size
  refine callsIn_of_wp Try.func81 rfl trivial ?_ rfl
  simp only [Try.ntmps81, List.size_toArray, List.length_cons, List.length_nil, Nat.reduceAdd, Nat.reduceSub, Array.replicate_succ, Array.replicate_zero, List.push_toArray, List.append_toArray, List.nil_append, List.cons_append]
  have HY := Lib.hid hY
  have HA := Lib.hid hA
  have hnI : (n : Int) ≤ 1000 := by omega
  clear hY hJ hJx hW hA hf0
  gi_wp2
  gi_loopw [3] (fun i wr => ∃ k : Nat, k ≤ n ∧ i = .int .i64 ((k : Int) - 1) ∧ J (dwn n k) wr ∧ W.heap.size ≤ wr.heap.size ∧ wr.cell? ⟨Bx, 0, none⟩ = some (.slice a n cap) ∧ Hid (JtAt wr a n hg us)) (fun i _ => (intOf i + 1).toNat)
  case atStart => exact ⟨n, Nat.le_refl _, by first | rfl | go_num, by rw [dwn_top]; exact h0, Nat.le_refl _, hx, HA⟩
  case round =>
    obtain ⟨k, hk, rfl, hJ, hsz, hx, HC⟩ := hrel
    rcases k with _ | k
    · gi_wp2
      go_end0
      exact ⟨⟨_, rfl⟩, .inl ⟨_, rfl, hJ⟩⟩
    · rw [show (((k + 1 : Nat)) : Int) - 1 = (k : Int) by omega]
      have hkn : k < n := hk
      have hki : (k : Int) < (n : Int) := by omega
      obtain ⟨b, off, rfl, hbb, c0, c1⟩ := HC.out k hkn
      obtain ⟨fn, tmps, assign, body, hy, hR⟩ := HY.out _ k wr ⟨hkn, rfl⟩ hJ (by omega)
      have HR := Lib.hid hR
      clear hR HY
      gi_wp2
      refine HR.out.mono ?_
      rintro e W3 ⟨hf, (⟨rfl, hJ4⟩ | ⟨rfl, hJx3⟩)⟩
      · have nb : ∀ B, B < w.heap.size → ¬ M B → ¬ (B = l ∨ RndM NoZ3 M (W.heap.size + 0) wr B) := fun B h1 h3 h => by
          rcases h with h | h | h
          · omega
          · exact h3 h
          · omega
        have hx3 := hf.cell (p := ⟨Bx, 0, none⟩) (nb _ hBx hMx) hx
        have HC3 := Lib.hid (HC.out.fr hf (fun b' off' e h => nb _ (hab b' off' e h) (hMb b' off' e h)))
        have hs3 := hf.size
        have HJ := Lib.hid hJ4
        clear hf hJ4 HC c0 c1
        gi_wp2
        go_roundw
        case rel => exact ⟨k, by omega, by first | rfl | go_num, by rw [← dwn_next hkn]; exact HJ.out, by omega, hx3, HC3⟩
        case measure => simp [intOf]
      · clear hf
        gi_wp2
        first
          | (go_end0; exact ⟨⟨_, rfl⟩, .inr ⟨_, trivial, hJx3⟩⟩)
          | (refine bodyPost_ret (results_none rfl _ _ _) rfl ?_; exact ⟨⟨_, rfl⟩, .inr ⟨_, trivial, hJx3⟩⟩)
end Go.Proofs.Ytbjdojcenflliaa
