/- The iterator of the usable places up to a height: its contract. -/
import Derived.Test.YtbjdojcenflliaaLdp
import Derived.Test.YtbjdojcenflliaaLdm
import Derived.ControlIn
namespace Go.Proofs.Ytbjdojcenflliaa
open Go.RowKit Go.Shelf
attribute [local go_sem] Oper.semAt_some

theorem upTo_mk (v : Value) (fi st la fr ht : Int) (w : World) :
    Calls Try.prog 78 #[.agg #[v, .int .i64 fi, .int .i64 st, .int .i64 la], .int .i64 fr, .int .i64 ht] w fun e w' => e = .returned (.func (.func 82) #[] #[.pointer (some ⟨w.heap.size + 1, 0, none⟩), .pointer (some ⟨w.heap.size, 0, none⟩), .pointer (some ⟨w.heap.size + 1 + 1, 0, none⟩)]) ∧
      ((w.alloc (.cells #[v, .int .i64 fi, .int .i64 st, .int .i64 la] 60)).alloc (.cells #[.int .i64 fr] 3)).alloc (.cells #[.int .i64 ht] 3) = w' := by
  go_enter Try.func78, Try.ntmps78
  go_wp2
  go_ret
  exact ⟨rfl, rfl⟩
def NoZ3 (_ : Obj) : Prop := False
set_option maxRecDepth 100000 in
set_option maxHeartbeats 4000000 in
theorem upTo1_fr (q : Nat) (hq : 1 ≤ q) (Bf Bh Br : Nat) (a : Option Addr) (n cap : Nat) (hg : Nat → Int) (us : Nat → Bool) (fi st la : Int) (M : Nat → Prop) (w : World) (hMf : ¬ M Bf) (hMh : ¬ M Bh) (hMr : ¬ M Br) (hMb : ∀ b off, a = some ⟨b, off, none⟩ → 0 < n → ¬ M b)
    (hn : n ≤ 1000) (i : Nat) (ht : Int) (hi : i ≤ 2000) (hf : w.cell? ⟨Bf, 0, none⟩ = some (.int .i64 (i : Nat))) (hh : w.cell? ⟨Bh, 0, none⟩ = some (.int .i64 ht)) (hr : RtB w Br (.slice a n cap) fi st la) (hA : JtAt w a n hg us) :
    SeqFr NoZ3 Fence.wide q Try.prog 82 #[.pointer (some ⟨Bf, 0, none⟩), .pointer (some ⟨Br, 0, none⟩), .pointer (some ⟨Bh, 0, none⟩)] (fun x : Nat => #[.int .i64 (x : Nat)]) (fun _ => False) M
      (fun pre x => ∃ r, upT hg us n ht i = pre ++ x :: r) (fun ys => ys = upT hg us n ht i) (fun _ => True) 0 w := by
  intro l J Jx W hW hl0 hl hJ hJx hY h0
  have hBf := World.block_lt_of_cell? _ _ hf
  have hBh := World.block_lt_of_cell? _ _ hh
  have hBr := hr.lt
  have hab : ∀ b off, a = some ⟨b, off, none⟩ → 0 < n → b < w.heap.size := fun b off e h => by
    obtain ⟨b', off', e', h1, _⟩ := hA 0 h
    rw [e] at e'; cases e'; exact h1
  have hf0 : Fr (fun _ => False) w W := (Fr.refl w).call hW
  have hf := hf0.cell (p := ⟨Bf, 0, none⟩) id hf
  have hh := hf0.cell (p := ⟨Bh, 0, none⟩) id hh
  have hr := hr.fr hf0 id
  have hA := hA.fr hf0 (fun _ _ _ _ => id)
  have hS := hW.size
  refine callsIn_of_wp Try.func82 rfl trivial ?_ rfl
  simp only [Try.ntmps82, List.size_toArray, List.length_cons, List.length_nil, Nat.reduceAdd, Nat.reduceSub, Array.replicate_succ, Array.replicate_zero, List.push_toArray, List.append_toArray, List.nil_append, List.cons_append]
  have HY := Lib.hid hY
  have HJ := Lib.hid hJ
  have HA := Lib.hid hA
  have HR := Lib.hid hr
  have HH := Lib.hid hh
  have hnI : (n : Int) ≤ 1000 := by omega
  clear hY hJ hJx hW hA hf0 hr hh
  gi_wp2
  gi_loopw [5] (fun v wr => ∃ (k : Nat) (pre : List Nat), v = .int .i64 k ∧ Hid (upT hg us n ht i = pre ++ upT hg us n ht k) ∧ (i ≤ k ∧ (k ≤ n ∨ k = i)) ∧ J pre wr ∧ W.heap.size ≤ wr.heap.size ∧ Hid (JtAt wr a n hg us) ∧ Hid (RtB wr Br (.slice a n cap) fi st la) ∧ Hid (wr.cell? ⟨Bh, 0, none⟩ = some (.int .i64 ht))) (fun v _ => n - (intOf v).toNat)
  case atStart => exact ⟨i, [], rfl, Lib.hid rfl, ⟨Nat.le_refl _, .inr rfl⟩, h0, Nat.le_refl _, HA, HR, HH⟩
  case round =>
    clear HA HR HH
    obtain ⟨k, pre, rfl, HE, ⟨hik, hkn⟩, hJ, hsz, HA, HR, HH⟩ := hrel
    have q0 := HR.out.g0
    have qh := HH.out
    by_cases hlt : k < n
    · have hlti : (k : Int) < (n : Int) := by omega
      obtain ⟨b, off, rfl, hbb, c0, c1⟩ := HA.out k hlt
      by_cases hle : hg k ≤ ht
      · cases hu : us k
        · have HE2 : Hid (upT hg us n ht i = pre ++ upT hg us n ht (k + 1)) := Lib.hid (by rw [HE.out, upT_skip ⟨hlt, hle⟩ hu])
          have hJd := HJ.out _ _ wr.drew hJ ((Fr.refl wr).drew)
          rw [hu] at c1
          clear hu HE
          gi_wp2
          refine wpIn_wide.2 ?_
          go_region
          gi_wp2
          refine ⟨fun _ h => (by cases h), ?_⟩
          gi_wp2
          go_roundw
          case rel => exact ⟨k + 1, pre, by go_num, HE2, ⟨by omega, .inl (by omega)⟩, hJd, hsz, HA, Lib.hid (HR.out.fr ((Fr.refl (M := fun _ => False) wr).drew) id), HH⟩
          case measure => simp [intOf]; omega
        · have HE2 : Hid (upT hg us n ht i = (pre ++ [k]) ++ upT hg us n ht (k + 1)) := Lib.hid (by rw [HE.out, upT_take ⟨hlt, hle⟩ hu]; simp)
          have hnx : ∃ r, upT hg us n ht i = pre ++ k :: r := ⟨_, by rw [HE.out, upT_take ⟨hlt, hle⟩ hu]⟩
          have hJd := HJ.out _ _ wr.drew hJ ((Fr.refl wr).drew)
          obtain ⟨fn, tmps, assign, body, hy, hRd⟩ := HY.out pre k wr.drew hnx hJd (by simp; omega)
          have HRd := Lib.hid hRd
          rw [hu] at c1
          clear hu HE hnx hRd hJ hJd
          gi_wp2
          refine wpIn_wide.2 ?_
          go_region
          gi_wp2
          refine RoundIn.mono HRd.out ?_
          rintro e VV ⟨hf, (⟨rfl, hJ4⟩ | ⟨rfl, hJx3⟩)⟩
          · have nb : ∀ B, B < w.heap.size → ¬ M B → ¬ (B = l ∨ RndM NoZ3 M (W.heap.size + 0) wr.drew B) := fun B h1 h3 h => by
              rcases h with h | h | h
              · omega
              · exact h3 h
              · omega
            have fD : Fr (fun _ => False) wr wr.drew := (Fr.refl wr).drew
            have HAV := Lib.hid ((HA.out.fr fD (fun _ _ _ _ => id)).fr hf (fun b' off' e h => nb _ (hab b' off' e h) (hMb b' off' e h)))
            have HRV := Lib.hid ((HR.out.fr fD id).fr hf (nb _ hBr hMr))
            have HHV := Lib.hid (hf.cell (p := ⟨Bh, 0, none⟩) (nb _ hBh hMh) (fD.cell (p := ⟨Bh, 0, none⟩) id HH.out))
            have hs3 := hf.size
            have HJc := Lib.hid hJ4
            have hs4 : wr.drew.heap.size = wr.heap.size := rfl
            clear hf hJ4 nb fD
            gi_wp2
            go_roundw
            case rel => exact ⟨k + 1, pre ++ [k], by go_num, HE2, ⟨by omega, .inl (by omega)⟩, HJc.out, by omega, HAV, HRV, HHV⟩
            case measure => simp [intOf]; omega
          · clear hf
            gi_wp2
            first
              | (go_end0; exact ⟨⟨_, rfl⟩, .inr ⟨_, trivial, hJx3⟩⟩)
              | (refine bodyPost_ret (results_none rfl _ _ _) rfl ?_; exact ⟨⟨_, rfl⟩, .inr ⟨_, trivial, hJx3⟩⟩)
      · have HE2 : Hid (pre = upT hg us n ht i) := Lib.hid (by rw [HE.out, upT_end (fun h => hle h.2), List.append_nil])
        have hJd := HJ.out _ _ wr.drew hJ ((Fr.refl wr).drew)
        clear HE
        gi_wp2
        refine wpIn_wide.2 ?_
        go_region
        gi_wp2
        go_end0
        exact ⟨⟨_, rfl⟩, .inl ⟨_, HE2.out, hJd⟩⟩
    · have HE2 : Hid (pre = upT hg us n ht i) := Lib.hid (by rw [HE.out, upT_end (fun h => hlt h.1), List.append_nil])
      have hlti : ¬ (k : Int) < (n : Int) := by omega
      have hJd := HJ.out _ _ wr.drew hJ ((Fr.refl wr).drew)
      clear HE
      gi_wp2
      refine wpIn_wide.2 ?_
      go_region
      gi_wp2
      go_end0
      exact ⟨⟨_, rfl⟩, .inl ⟨_, HE2.out, hJd⟩⟩
end Go.Proofs.Ytbjdojcenflliaa
