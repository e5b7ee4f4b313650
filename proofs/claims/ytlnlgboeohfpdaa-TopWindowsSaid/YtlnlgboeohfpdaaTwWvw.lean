/- The iterator of a forecast's casts and gaps: its contract. -/
import Derived.Test.YtlnlgboeohfpdaaTwWvm
import Derived.Test.YtlnlgboeohfpdaaTwWdkq
import Derived.Test.YtlnlgboeohfpdaaTwWdk
namespace Go.Proofs.Ytlnlgboeohfpdaa.Tw
open Go.Proofs.Ytlnlgboeohfpdaa
open Go.RowKit Go.Shelf
attribute [local go_sem] Oper.semAt_some

theorem whK_gap {fr to lo hi : Nat → Int} {k : Nat} (h : laC to k < fr k) : whK fr to lo hi (k + 1) = (whK fr to lo hi k ++ [(laC to k, fr k, 0, 200)]) ++ [(fr k, to k, lo k, hi k)] := by
  rw [whK, if_pos h]; rfl
theorem whK_no {fr to lo hi : Nat → Int} {k : Nat} (h : ¬ laC to k < fr k) : whK fr to lo hi (k + 1) = whK fr to lo hi k ++ [(fr k, to k, lo k, hi k)] := by
  rw [whK, if_neg h]; rfl
theorem wh_pre {n : Nat} {fr to lo hi : Nat → Int} : ∀ d k, k + d = n → ∃ r, whA n fr to lo hi = whK fr to lo hi k ++ r
  | 0, k, h => by
    obtain rfl : n = k := by omega
    unfold whA
    by_cases hg : laC to n < 100000
    · exact ⟨_, if_pos hg⟩
    · exact ⟨[], by rw [if_neg hg, List.append_nil]⟩
  | d + 1, k, h => by
    obtain ⟨r, hr⟩ := wh_pre (n := n) (fr := fr) (to := to) (lo := lo) (hi := hi) d (k + 1) (by omega)
    by_cases hg : laC to k < fr k
    · rw [whK_gap hg] at hr
      exact ⟨_, by rw [hr, List.append_assoc, List.append_assoc]⟩
    · rw [whK_no hg] at hr
      exact ⟨_, by rw [hr, List.append_assoc]⟩
theorem whA_gap {n : Nat} {fr to lo hi : Nat → Int} (h : laC to n < 100000) : whA n fr to lo hi = whK fr to lo hi n ++ [(laC to n, 100000, 0, 200)] := if_pos h
theorem whA_no {n : Nat} {fr to lo hi : Nat → Int} (h : ¬ laC to n < 100000) : whA n fr to lo hi = whK fr to lo hi n := if_neg h

/-- What no round turns: a cast in its box. -/
def CastO (o : Obj) : Prop := ∃ cs fr, o = .cells cs 43 fr
theorem CAt.fr {M : Nat → Prop} {w W : World} {a : Option Addr} {n : Nat} {fr to lo hi : Nat → Int} (h : CAt w a n fr to lo hi) (hf : Fr M w W) (hM : ∀ b off, a = some ⟨b, off, none⟩ → 0 < n → ¬ M b) : CAt W a n fr to lo hi := fun k hk => by
  obtain ⟨b, off, e, h1, h2, h3, h4, h5⟩ := h k hk
  have nm := hM b off e (by omega)
  exact ⟨b, off, e, Nat.lt_of_lt_of_le h1 hf.size, hf.cell (p := ⟨b, off + k * 4, none⟩) nm h2, hf.cell (p := ⟨b, off + k * 4 + 1, none⟩) nm h3, hf.cell (p := ⟨b, off + k * 4 + 2, none⟩) nm h4, hf.cell (p := ⟨b, off + k * 4 + 3, none⟩) nm h5⟩
theorem BxC.lt {W : World} {X : Nat} {f0 f1 f2 f3 : Int} (h : BxC W X f0 f1 f2 f3) : X < W.heap.size := by
  rcases Nat.lt_or_ge X W.heap.size with h1 | h1
  · exact h1
  · have := h.obj
    rw [Array.getElem?_eq_none h1] at this
    cases this
theorem BxC.fr {M : Nat → Prop} {W W' : World} {X : Nat} {f0 f1 f2 f3 : Int} (h : BxC W X f0 f1 f2 f3) (hf : Fr M W W') (hM : ¬ M X) : BxC W' X f0 f1 f2 f3 :=
  ⟨(hf.same X h.lt hM).trans h.obj⟩
theorem BxC.isO {W : World} {X : Nat} {f0 f1 f2 f3 : Int} (h : BxC W X f0 f1 f2 f3) : ∃ o, W.heap[X]? = some o ∧ CastO o := ⟨_, h.obj, _, _, rfl⟩
set_option maxRecDepth 100000 in
theorem anyGust_any (f t : Int) (w : World) :
    Calls Try.prog 32 #[.int .i64 f, .int .i64 t] w fun e w' => e = .returned (.agg #[.int .i64 f, .int .i64 t, .int .i64 0, .int .i64 200]) ∧ Below w.heap.size w w' := by
  go_enter Try.func32, Try.ntmps32
  go_wp2
  go_returns
  exact ⟨rfl, by (repeat' (first | (with_reducible exact Below.refl _ _) | (with_reducible assumption) | (with_reducible refine Below.alloc ?_ ?_ _) | (with_reducible refine Below.drew ?_) | (with_reducible refine below_drewN ?_ _) | (with_reducible refine Below.setCell ?_ ?_ _) | (with_reducible refine below_after ?_ ?_ _) | (with_reducible refine below_set ?_) | (with_reducible refine After.size_le _ ?_) | (with_reducible refine size_alloc_le ?_) | (with_reducible refine size_set_le ?_) | (with_reducible refine size_drewN_le ?_) | go_size))⟩
/-- The value of a cast that is yielded. -/
def qv (q : Qd) : Array Value := #[.agg #[.int .i64 q.1, .int .i64 q.2.1, .int .i64 q.2.2.1, .int .i64 q.2.2.2]]
set_option maxRecDepth 100000 in
set_option maxHeartbeats 4000000 in
theorem whole1_fr (m : Nat) (hm : 1 ≤ m) (Bg : Nat) (a : Option Addr) (n cap : Nat) (fr to lo hi : Nat → Int) (M : Nat → Prop) (w : World) (hMm : ∀ i, M i → i < w.heap.size) (hMb : ∀ b off, a = some ⟨b, off, none⟩ → 0 < n → ¬ M b)
    (hn : n ≤ 200) (hg : w.cell? ⟨Bg, 0, none⟩ = some (.slice a n cap)) (hA : CAt w a n fr to lo hi) :
    SeqFr CastO Fence.wide m Try.prog 31 #[.pointer (some ⟨Bg, 0, none⟩)] qv (fun _ => False) M
      (fun pre x => ∃ r, whA n fr to lo hi = pre ++ x :: r) (fun ys => ys = whA n fr to lo hi) (fun _ => True) 0 w := by
  intro l J Jx W hW hl0 hl hJ hJx hY h0
  have hab : ∀ b off, a = some ⟨b, off, none⟩ → 0 < n → b < w.heap.size := fun b off e h => by
    obtain ⟨b', off', e', h1, _⟩ := hA 0 h
    rw [e] at e'; cases e'; exact h1
  have hf0 : Fr (fun _ => False) w W := (Fr.refl w).call hW
  have hg := hf0.cell (p := ⟨Bg, 0, none⟩) id hg
  have hA := hA.fr hf0 (fun _ _ _ _ => id)
  have hS := hW.size
  refine callsIn_of_wp Try.func31 rfl trivial ?_ rfl
  simp only [Try.ntmps31, List.size_toArray, List.length_cons, List.length_nil, Nat.reduceAdd, Nat.reduceSub, Array.replicate_succ, Array.replicate_zero, List.push_toArray, List.append_toArray, List.nil_append, List.cons_append]
  have HY := Lib.hid hY
  have HJ := Lib.hid hJ
  have HA := Lib.hid hA
  have HG := Lib.hid anyGust_any
  have hnI : (n : Int) ≤ 200 := by omega
  clear hY hJ hJx hW hA hf0
  gi_wp2
  gi_loopw [3, 8] (fun v i wr => ∃ k : Nat, k ≤ n ∧ i = .int .i64 k ∧ v = .int .i64 (laC to k) ∧ J (whK fr to lo hi k) wr ∧ W.heap.size ≤ wr.heap.size ∧ Hid (CAt wr a n fr to lo hi)) (fun _ i _ => n - (intOf i).toNat)
  case atStart => exact ⟨0, by omega, rfl, rfl, h0, Nat.le_refl _, HA⟩
  case round =>
    obtain ⟨k, hk, rfl, rfl, hJ, hsz, HA⟩ := hrel
    by_cases hlt : k < n
    · obtain ⟨b, off, ea, hb, c0, c1, c2, c3⟩ := HA.out k hlt
      subst ea
      obtain ⟨r, hr⟩ := wh_pre (n := n) (fr := fr) (to := to) (lo := lo) (hi := hi) (n - (k + 1)) (k + 1) (by omega)
      have hla : Hid ((.int .i64 (to k) : Value) = .int .i64 (laC to (k + 1))) := Lib.hid rfl
      by_cases hgp : laC to k < fr k
      · have HE := Lib.hid (whK_gap (lo := lo) (hi := hi) hgp)
        rw [HE.out] at hr
        have hYg := fun X => HY.out (whK fr to lo hi k) (laC to k, fr k, 0, 200) X ⟨(fr k, to k, lo k, hi k) :: r, by rw [hr]; simp⟩
        have hYc := fun X => HY.out (whK fr to lo hi k ++ [(laC to k, fr k, 0, 200)]) (fr k, to k, lo k, hi k) X ⟨r, by rw [hr]; simp⟩
        have hgd : decide (laC to k < fr k) = true := decide_eq_true hgp
        unfold qv at hYg hYc
        dsimp only at hYg hYc
        have HYg := Lib.hid hYg
        have HYc := Lib.hid hYc
        clear hr HY hYg hYc hgp
        generalize laC to k = v at *
        generalize whK fr to lo hi k = L at *
        generalize fr k = x0 at *
        generalize to k = x1 at *
        generalize lo k = x2 at *
        generalize hi k = x3 at *
        gi_wp2
        refine ⟨trivial, (callsIn_wide.2 (HG.out _ _ _)).mono ?_⟩
        rintro e w2 ⟨rfl, hw2⟩
        have FZ : Fr (fun _ => False) wr w2 := ((Fr.refl wr).alloc _).call hw2
        have BX2 : Hid (BxC w2 wr.heap.size x0 x1 x2 x3) := Lib.hid ((BxC.new wr x0 x1 x2 x3).on hw2)
        have hJ2 := HJ.out _ _ w2 hJ (FZ.mono fun _ _ h => h.elim)
        have hw2s := FZ.size
        obtain ⟨fn, tmps, assign, body, hy, hR⟩ := HYg.out w2 hJ2 (by omega)
        have HR := Lib.hid hR
        have HA2 := Lib.hid (HA.out.fr FZ (fun _ _ _ _ => id))
        clear hR HYg FZ hw2 c0 c1 c2 c3 HA HG hJ2 hJ
        gi_wp2
        refine HR.out.mono ?_
        rintro e VV ⟨hf, (⟨rfl, hJ4⟩ | ⟨rfl, hJx3⟩)⟩
        · have nb : ∀ B, B < W.heap.size → ¬ B = l → ¬ M B → ¬ (B = l ∨ RndM CastO M (W.heap.size + 0) w2 B) := fun B h1 h2 h3 h => by
            rcases h with h | h | h
            · exact h2 h
            · exact h3 h
            · omega
          have nx : ¬ (wr.heap.size = l ∨ RndM CastO M (W.heap.size + 0) w2 wr.heap.size) := fun h => by
            rcases h with h | h | ⟨_, h⟩
            · omega
            · have := hMm _ h; omega
            · obtain ⟨o, ho, hs⟩ := BX2.out.isO
              exact (h o ho).2 hs
          have HAV := Lib.hid (HA2.out.fr hf (fun b' off' e h => nb _ (by have := hab b' off' e h; omega) (by have := hab b' off' e h; omega) (hMb b' off' e h)))
          have BX := Lib.hid (BX2.out.fr hf nx)
          have hs3 := hf.size
          have HJc := Lib.hid hJ4
          clear hf hJ4 nb nx HA2 BX2
          have hJc := HJc.out
          obtain ⟨fn', tmps', assign', body', hy', hR'⟩ := HYc.out VV hJc (by omega)
          have HR' := Lib.hid hR'
          obtain ⟨d0, d1, d2, d3⟩ := BX.out.cells
          clear hR' HYc hJc HJc
          gi_wp2
          first | (refine RoundIn.mono HR'.out ?_) | (refine ⟨trivial, ?_⟩; gi_wp2; first | (refine RoundIn.mono HR'.out ?_) | (refine ⟨fun _ h => (by cases h), ?_⟩; gi_wp2; refine RoundIn.mono HR'.out ?_) | (trace_state; fail))
          rintro e W4 ⟨hf4, (⟨rfl, hJ5⟩ | ⟨rfl, hJx5⟩)⟩
          · have nb4 : ∀ B, B < W.heap.size → ¬ B = l → ¬ M B → ¬ (B = l ∨ RndM CastO M (W.heap.size + 0) VV B) := fun B h1 h2 h3 h => by
              rcases h with h | h | h
              · exact h2 h
              · exact h3 h
              · omega
            have nx4 : ¬ (wr.heap.size = l ∨ RndM CastO M (W.heap.size + 0) VV wr.heap.size) := fun h => by
              rcases h with h | h | ⟨_, h⟩
              · omega
              · have := hMm _ h; omega
              · obtain ⟨o, ho, hs⟩ := BX.out.isO
                exact (h o ho).2 hs
            have HA4 := Lib.hid (HAV.out.fr hf4 (fun b' off' e h => nb4 _ (by have := hab b' off' e h; omega) (by have := hab b' off' e h; omega) (hMb b' off' e h)))
            obtain ⟨g0, g1, g2, g3⟩ := (BX.out.fr hf4 nx4).cells
            have hs4 := hf4.size
            have HJ5 := Lib.hid hJ5
            clear hf4 hJ5 nb4 nx4 d0 d1 d2 d3 HAV BX
            gi_wp2
            go_roundw
            case rel => exact ⟨k + 1, by omega, by go_num, hla.out, by rw [HE.out]; exact HJ5.out, by omega, HA4⟩
            case measure => simp [intOf]; omega
          · clear hf4
            gi_wp2
            refine bodyPost_ret (results_none rfl _ _ _) rfl ?_
            exact ⟨⟨_, rfl⟩, .inr ⟨_, trivial, hJx5⟩⟩
        · clear hf
          gi_wp2
          refine ⟨fun _ h => (by cases h), ?_⟩
          gi_wp2
          refine bodyPost_ret (results_none rfl _ _ _) rfl ?_
          exact ⟨⟨_, rfl⟩, .inr ⟨_, trivial, hJx3⟩⟩
      · have HE := Lib.hid (whK_no (lo := lo) (hi := hi) hgp)
        rw [HE.out] at hr
        have hYc := fun X => HY.out (whK fr to lo hi k) (fr k, to k, lo k, hi k) X ⟨r, by rw [hr]; simp⟩
        have hgd : decide (laC to k < fr k) = false := decide_eq_false hgp
        unfold qv at hYc
        dsimp only at hYc
        have HYc := Lib.hid hYc
        clear hr HY hYc hgp
        generalize laC to k = v at *
        generalize whK fr to lo hi k = L at *
        generalize fr k = x0 at *
        generalize to k = x1 at *
        generalize lo k = x2 at *
        generalize hi k = x3 at *
        obtain ⟨VV, hVV⟩ : ∃ VV, wr.alloc (.cells #[.int .i64 x0, .int .i64 x1, .int .i64 x2, .int .i64 x3] 43) = VV := ⟨_, rfl⟩
        have FZ : Fr (fun _ => False) wr VV := by rw [← hVV]; exact (Fr.refl wr).alloc _
        have BX : Hid (BxC VV wr.heap.size x0 x1 x2 x3) := Lib.hid (by rw [← hVV]; exact BxC.new wr x0 x1 x2 x3)
        have HJc := Lib.hid (HJ.out _ _ VV hJ (FZ.mono fun _ _ h => h.elim))
        have hs3 := FZ.size
        have HAV := Lib.hid (HA.out.fr FZ (fun _ _ _ _ => id))
        clear FZ HG hJ HA
        have hJc := HJc.out
        obtain ⟨fn', tmps', assign', body', hy', hR'⟩ := HYc.out VV hJc (by omega)
        have HR' := Lib.hid hR'
        obtain ⟨d0, d1, d2, d3⟩ := BX.out.cells
        clear hR' HYc hJc HJc
        gi_wp2
        first | (refine RoundIn.mono HR'.out ?_) | (refine ⟨trivial, ?_⟩; gi_wp2; first | (refine RoundIn.mono HR'.out ?_) | (refine ⟨fun _ h => (by cases h), ?_⟩; gi_wp2; refine RoundIn.mono HR'.out ?_) | (trace_state; fail))
        rintro e W4 ⟨hf4, (⟨rfl, hJ5⟩ | ⟨rfl, hJx5⟩)⟩
        · have nb4 : ∀ B, B < W.heap.size → ¬ B = l → ¬ M B → ¬ (B = l ∨ RndM CastO M (W.heap.size + 0) VV B) := fun B h1 h2 h3 h => by
            rcases h with h | h | h
            · exact h2 h
            · exact h3 h
            · omega
          have nx4 : ¬ (wr.heap.size = l ∨ RndM CastO M (W.heap.size + 0) VV wr.heap.size) := fun h => by
            rcases h with h | h | ⟨_, h⟩
            · omega
            · have := hMm _ h; omega
            · obtain ⟨o, ho, hs⟩ := BX.out.isO
              exact (h o ho).2 hs
          have HA4 := Lib.hid (HAV.out.fr hf4 (fun b' off' e h => nb4 _ (by have := hab b' off' e h; omega) (by have := hab b' off' e h; omega) (hMb b' off' e h)))
          obtain ⟨g0, g1, g2, g3⟩ := (BX.out.fr hf4 nx4).cells
          have hs4 := hf4.size
          have HJ5 := Lib.hid hJ5
          clear hf4 hJ5 nb4 nx4 d0 d1 d2 d3 HAV BX
          gi_wp2
          go_roundw
          case rel => exact ⟨k + 1, by omega, by go_num, hla.out, by rw [HE.out]; exact HJ5.out, by omega, HA4⟩
          case measure => simp [intOf]; omega
        · clear hf4
          gi_wp2
          refine bodyPost_ret (results_none rfl _ _ _) rfl ?_
          exact ⟨⟨_, rfl⟩, .inr ⟨_, trivial, hJx5⟩⟩
    · obtain rfl : k = n := by omega
      by_cases hgp : laC to k < 100000
      · have HE := Lib.hid (whA_gap (fr := fr) (lo := lo) (hi := hi) hgp)
        have hYg := fun X => HY.out (whK fr to lo hi k) (laC to k, 100000, 0, 200) X ⟨[], by rw [HE.out]⟩
        unfold qv at hYg
        dsimp only at hYg
        have HYg := Lib.hid hYg
        clear hYg HY
        generalize laC to k = v at *
        gi_wp2
        refine ⟨trivial, (callsIn_wide.2 (HG.out _ _ _)).mono ?_⟩
        rintro e w2 ⟨rfl, hw2⟩
        have FZ : Fr (fun _ => False) wr w2 := (Fr.refl wr).call hw2
        have hJ2 := HJ.out _ _ w2 hJ (FZ.mono fun _ _ h => h.elim)
        have hw2s := FZ.size
        obtain ⟨fn, tmps, assign, body, hy, hR⟩ := HYg.out w2 hJ2 (by omega)
        have HR := Lib.hid hR
        clear hR HYg FZ hw2 HA HG hJ2 hJ
        gi_wp2
        refine HR.out.mono ?_
        rintro e W3 ⟨hf, (⟨rfl, hJ4⟩ | ⟨rfl, hJx3⟩)⟩
        · gi_wp2
          go_end0
          exact ⟨⟨_, rfl⟩, by first | exact .inl ⟨_, HE.out.symm, hJ4⟩ | exact .inl (by rw [HE.out]; exact hJ4)⟩
        · gi_wp2
          go_end0
          exact ⟨⟨_, rfl⟩, by first | exact .inr ⟨_, trivial, hJx3⟩ | exact .inr ⟨_, hJx3⟩⟩
      · have HE := Lib.hid (whA_no (fr := fr) (lo := lo) (hi := hi) hgp)
        clear HY
        generalize laC to k = v at *
        gi_wp2
        go_end0
        exact ⟨⟨_, rfl⟩, .inl (by rw [HE.out]; exact hJ)⟩
theorem whole_mk (a : Option Addr) (n cap : Nat) (w : World) :
    Calls Try.prog 27 #[.slice a n cap] w fun e w' => e = .returned (.func (.func 31) #[] #[.pointer (some ⟨w.heap.size, 0, none⟩)]) ∧ w.alloc (.cells #[.slice a n cap] 24) = w' := by
  go_enter Try.func27, Try.ntmps27
  go_wp2
  go_ret
  exact ⟨rfl, rfl⟩
end Go.Proofs.Ytlnlgboeohfpdaa.Tw
