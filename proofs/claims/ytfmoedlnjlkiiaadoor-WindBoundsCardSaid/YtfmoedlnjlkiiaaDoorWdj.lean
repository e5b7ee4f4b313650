/- The iterator of minutes with their steps: its contract. -/
import Derived.Test.YtfmoedlnjlkiiaaDoorWdi
import Derived.Test.YtfmoedlnjlkiiaaDoorItz
import Derived.ControlIn
namespace Go.Proofs.YtfmoedlnjlkiiaaDoor
open Go.RowKit Go.Shelf
attribute [local go_sem] Oper.semAt_some

/-- What no round turns: a minute's step. -/
def StepO (o : Obj) : Prop := ∃ cs fr, o = .cells cs 86 fr
theorem IAt.fr {M : Nat → Prop} {w W : World} {a : Option Addr} {n : Nat} {f : Nat → Int} (h : IAt w a n f) (hf : Fr M w W) (hM : ∀ b off, a = some ⟨b, off, none⟩ → 0 < n → ¬ M b) : IAt W a n f := fun k hk => by
  obtain ⟨b, off, e, h1, h2⟩ := h k hk
  exact ⟨b, off, e, Nat.lt_of_lt_of_le h1 hf.size, hf.cell (p := ⟨b, off + k, none⟩) (hM b off e (by omega)) h2⟩
theorem MinB.fr {M : Nat → Prop} {w W : World} {Bw Bs : Nat} {s g c : Int} {a : Option Addr} {n cap : Nat} (h : MinB w Bw Bs s g c a n cap) (hf : Fr M w W) (h1 : ¬ M Bw) (h2 : ¬ M Bs) : MinB W Bw Bs s g c a n cap :=
  ⟨hf.cell (p := ⟨Bw, 3, none⟩) h1 h.l, hf.cell (p := ⟨Bs, 0, none⟩) h2 h.go, hf.cell (p := ⟨Bs, 1, none⟩) h2 h.st⟩

set_option maxRecDepth 100000 in
set_option maxHeartbeats 2000000 in
theorem minutes1_fr (m : Nat) (hm : 1 ≤ m) (Bw Bs : Nat) (s g c : Int) (a : Option Addr) (n cap : Nat) (f : Nat → Int) (M : Nat → Prop) (w : World) (hMm : ∀ i, M i → i < w.heap.size) (hMw : ¬ M Bw) (hMs : ¬ M Bs) (hMb : ∀ b off, a = some ⟨b, off, none⟩ → 0 < n → ¬ M b)
    (hc : 1 ≤ c ∧ c ≤ 1000) (hn : n ≤ 2000) (hB : MinB w Bw Bs s g c a n cap) (hA : IAt w a n f) :
    SeqFr StepO Fence.wide m Tryd.prog 80 #[.pointer (some ⟨Bw, 0, none⟩), .pointer (some ⟨Bs, 0, none⟩)] (fun k : Nat => #[.int .i64 k, .agg #[.int .i64 (wt s g c f k), .int .i64 (wt s g c f (k + 1))]]) (fun _ => False) M
      (fun pre x => pre = List.range x ∧ x < n) (fun ys => ys = List.range n) (fun _ => True) 0 w := by
  intro l J Jx W hW hl0 hl hJ hJx hY h0
  have hbw : Bw < w.heap.size := World.block_lt_of_cell? w _ hB.l
  have hbs : Bs < w.heap.size := World.block_lt_of_cell? w _ hB.go
  have hab : ∀ b off, a = some ⟨b, off, none⟩ → 0 < n → b < w.heap.size := fun b off e h => by
    obtain ⟨b', off', e', h1, _⟩ := hA 0 h
    rw [e] at e'; cases e'; exact h1
  have hf0 : Fr (fun _ => False) w W := (Fr.refl w).call hW
  have hB := hB.fr hf0 id id
  have hA := hA.fr hf0 (fun _ _ _ _ => id)
  have hS := hW.size
  refine callsIn_of_wp Tryd.func80 rfl trivial ?_ rfl
  simp only [Tryd.ntmps80, List.size_toArray, List.length_cons, List.length_nil, Nat.reduceAdd, Nat.reduceSub, Array.replicate_succ, Array.replicate_zero, List.push_toArray, List.append_toArray, List.nil_append, List.cons_append]
  have HY := Lib.hid hY
  have HJ := Lib.hid hJ
  have HA := Lib.hid hA
  have HB := Lib.hid hB
  obtain ⟨hB3, hB0, hB1⟩ := hB
  have hnI : (n : Int) ≤ 2000 := by omega
  clear hY hJ hJx hW hA hf0
  gi_wp2
  gi_loopw [4, 11] (fun v i wr => ∃ k : Nat, k ≤ n ∧ i = .int .i64 k ∧ v = .int .i64 (wt s g c f k) ∧ J (List.range k) wr ∧ W.heap.size ≤ wr.heap.size ∧ Hid (MinB wr Bw Bs s g c a n cap) ∧ Hid (IAt wr a n f)) (fun _ i _ => n - (intOf i).toNat)
  case atStart => exact ⟨0, by omega, rfl, rfl, h0, Nat.le_refl _, HB, HA⟩
  case round =>
    obtain ⟨k, hk, rfl, rfl, hJ, hsz, HB, HA⟩ := hrel
    by_cases hlt : k < n
    · obtain ⟨b, off, ea, hb, hcell⟩ := HA.out k hlt
      obtain ⟨c0, c1, c2⟩ := HB.out
      have hwt := wt_bd (s := s) (g := g) hc.1 f k
      have HS := Lib.hid (fun W => step_any s g c (wt s g c f k) (f k) W (by omega))
      have hl1 : wt s g c f (k + 1) = nxW s g c (wt s g c f k) (f k) := rfl
      have hYk := fun X => HY.out (List.range k) k X ⟨rfl, hlt⟩
      rw [hl1] at hYk
      have HYk := Lib.hid hYk
      clear hYk HY
      subst ea
      generalize wt s g c f k = v at *
      generalize nxW s g c v (f k) = v' at *
      generalize f k = x at *
      gi_wp2
      refine ⟨trivial, (callsIn_wide.2 (HS.out _)).mono ?_⟩
      rintro e w2 ⟨rfl, hw2⟩
      obtain ⟨Z, hZ⟩ : ∃ Z, w2.alloc (.cells #[.int .i64 v, .int .i64 v'] 86) = Z := ⟨_, rfl⟩
      have FZ : Fr (fun _ => False) wr Z := by rw [← hZ]; exact ((Fr.refl wr).call hw2).alloc _
      have sZ : Z.heap.size = w2.heap.size + 1 := by rw [← hZ]; simp
      have z0 : Z.cell? ⟨w2.heap.size, 0, none⟩ = some (.int .i64 v) := by rw [← hZ]; simp [go_sem]
      have z1 : Z.cell? ⟨w2.heap.size, 1, none⟩ = some (.int .i64 v') := by rw [← hZ]; simp [go_sem]
      have oZ : ∃ o, Z.heap[w2.heap.size]? = some o ∧ StepO o := by rw [← hZ]; exact ⟨_, World.alloc_heap_new w2 _, _, _, rfl⟩
      have hw2s := hw2.size
      have hJ2 := HJ.out _ _ Z hJ (FZ.mono fun _ _ h => h.elim)
      obtain ⟨fn, tmps, assign, body, hy, hR⟩ := HYk.out Z hJ2 (by omega)
      have HR := Lib.hid hR
      have HBZ := Lib.hid (HB.out.fr FZ id id)
      have HAZ := Lib.hid (HA.out.fr FZ (fun _ _ _ _ => id))
      clear hR HYk FZ hw2 c0 c1 c2 hcell HB HA HS
      gi_wp2
      refine HR.out.mono ?_
      rintro e W3 ⟨hf, (⟨rfl, hJ4⟩ | ⟨rfl, hJx3⟩)⟩
      · have nb : ∀ B, B < W.heap.size → ¬ B = l → ¬ M B → ¬ (B = l ∨ RndM StepO M (W.heap.size + 0) Z B) := fun B h1 h2 h3 h => by
          rcases h with h | h | h
          · exact h2 h
          · exact h3 h
          · omega
        have nx : ¬ (w2.heap.size = l ∨ RndM StepO M (W.heap.size + 0) Z w2.heap.size) := fun h => by
          rcases h with h | h | ⟨_, h⟩
          · omega
          · have := hMm _ h; omega
          · obtain ⟨o, ho, hs⟩ := oZ
            exact (h o ho).2 hs
        have x1 := hf.cell (p := ⟨w2.heap.size, 1, none⟩) nx z1
        have HB3 := Lib.hid (HBZ.out.fr hf (nb _ (by omega) (by omega) hMw) (nb _ (by omega) (by omega) hMs))
        have HA3 := Lib.hid (HAZ.out.fr hf (fun b' off' e h => nb _ (by have := hab b' off' e h; omega) (by have := hab b' off' e h; omega) (hMb b' off' e h)))
        have hs3 := hf.size
        have HJ4 := Lib.hid hJ4
        clear hf hJ4 z0 z1 HAZ HBZ nb nx oZ hZ
        gi_wp2
        go_roundw
        case rel => exact ⟨k + 1, by omega, by go_num, by rw [hl1], by rw [List.range_succ]; exact HJ4.out, by omega, HB3, HA3⟩
        case measure => simp [intOf]; omega
      · clear hf
        gi_wp2
        refine bodyPost_ret (results_none rfl _ _ _) rfl ?_
        exact ⟨⟨_, rfl⟩, .inr ⟨_, trivial, hJx3⟩⟩
    · gi_wp2
      go_end0
      obtain rfl : k = n := by omega
      exact ⟨⟨_, rfl⟩, .inl ⟨_, rfl, hJ⟩⟩
end Go.Proofs.YtfmoedlnjlkiiaaDoor
