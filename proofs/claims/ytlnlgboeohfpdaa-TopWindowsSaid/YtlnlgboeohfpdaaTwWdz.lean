/- Missing in both programs; SameInts. -/
import Derived.Test.YtlnlgboeohfpdaaTwWdn
import Derived.Test.YtlnlgboeohfpdaaTwWdp
namespace Go.Proofs.Ytlnlgboeohfpdaa.Tw
open Go.Proofs.Ytlnlgboeohfpdaa
open Go.RowKit Go.Shelf

/-- A minute without a reading. -/
def mW (f : Nat → Int) (k : Nat) : Bool := f k == -1
theorem fl_split2 {p : Nat → Bool} {x : Nat} (hp : p x = true) : ∀ {n : Nat}, x < n → ∃ r, fl p n = fl p x ++ x :: r
  | n + 1, h => by
    rw [fl_succ]
    rcases Nat.lt_or_ge x n with h1 | h1
    · obtain ⟨r, hr⟩ := fl_split2 hp h1
      by_cases h2 : p n = true
      · exact ⟨r ++ [n], by rw [if_pos h2, hr]; simp⟩
      · exact ⟨r, by rw [if_neg h2, hr]⟩
    · obtain rfl : x = n := by omega
      exact ⟨[], by rw [if_pos hp]⟩
section
attribute [local go_sem] Oper.semAt_some
set_option maxRecDepth 100000 in
set_option maxHeartbeats 2000000 in
theorem missing1_fr (m : Nat) (hm : 1 ≤ m) (Bg : Nat) (a : Option Addr) (n cap : Nat) (f : Nat → Int) (M : Nat → Prop) (w : World) (hMg : ¬ M Bg) (hMb : ∀ b off, a = some ⟨b, off, none⟩ → 0 < n → ¬ M b)
    (hn : n ≤ 2000) (hg : w.cell? ⟨Bg, 0, none⟩ = some (.slice a n cap)) (hA : IAt w a n f) :
    SeqFr StepO Fence.wide m Try.prog 24 #[.pointer (some ⟨Bg, 0, none⟩)] (fun k : Nat => #[.int .i64 k]) (fun _ => False) M
      (fun pre x => pre = fl (mW f) x ∧ x < n ∧ mW f x = true) (fun ys => ys = fl (mW f) n) (fun _ => True) 0 w := by
  intro l J Jx W hW hl0 hl hJ hJx hY h0
  have hbg : Bg < w.heap.size := World.block_lt_of_cell? w _ hg
  have hab : ∀ b off, a = some ⟨b, off, none⟩ → 0 < n → b < w.heap.size := fun b off e h => by
    obtain ⟨b', off', e', h1, _⟩ := hA 0 h
    rw [e] at e'; cases e'; exact h1
  have hf0 : Fr (fun _ => False) w W := (Fr.refl w).call hW
  have hg := hf0.cell (p := ⟨Bg, 0, none⟩) id hg
  have hA := hA.fr hf0 (fun _ _ _ _ => id)
  have hS := hW.size
  refine callsIn_of_wp Try.func24 rfl trivial ?_ rfl
  simp only [Try.ntmps24, List.size_toArray, List.length_cons, List.length_nil, Nat.reduceAdd, Nat.reduceSub, Array.replicate_succ, Array.replicate_zero, List.push_toArray, List.append_toArray, List.nil_append, List.cons_append]
  have HY := Lib.hid hY
  have HA := Lib.hid hA
  have hnI : (n : Int) ≤ 2000 := by omega
  clear hY hJ hJx hW hA hf0
  gi_wp2
  gi_loopw [7] (fun i wr => ∃ k : Nat, k ≤ n ∧ i = .int .i64 k ∧ J (fl (mW f) k) wr ∧ W.heap.size ≤ wr.heap.size ∧ Hid (IAt wr a n f)) (fun i _ => n - (intOf i).toNat)
  case atStart => exact ⟨0, by omega, rfl, h0, Nat.le_refl _, HA⟩
  case round =>
    obtain ⟨k, hk, rfl, hJ, hsz, HA⟩ := hrel
    by_cases hlt : k < n
    · obtain ⟨b, off, ea, hb, hcell⟩ := HA.out k hlt
      have HF := Lib.hid (fl_succ (mW f) k)
      have HYk := Lib.hid (fun (hp : mW f k = true) => HY.out (fl (mW f) k) k wr ⟨rfl, hlt, hp⟩ hJ (by omega))
      subst ea
      have hmk : mW f k = (f k == -1) := rfl
      generalize mW f k = z at *
      generalize f k = x at *
      clear HY
      cases z
      · have hx : (x == -1) = false := hmk.symm
        clear hmk HYk
        gi_wp2
        refine ⟨fun _ h => (by cases h), ?_⟩
        gi_wp2
        go_roundw
        case rel => exact ⟨k + 1, by omega, by go_num, by rw [HF.out]; exact hJ, hsz, HA⟩
        case measure => simp [intOf]; omega
      · have hx : x = -1 := beq_iff_eq.1 hmk.symm
        subst hx
        clear hmk
        obtain ⟨fn, tmps, assign, body, hy, hR⟩ := HYk.out rfl
        have HR := Lib.hid hR
        clear hR HYk
        gi_wp2
        refine HR.out.mono ?_
        rintro e W3 ⟨hf, (⟨rfl, hJ4⟩ | ⟨rfl, hJx3⟩)⟩
        · have nb : ∀ B, B < W.heap.size → ¬ B = l → ¬ M B → ¬ (B = l ∨ RndM StepO M (W.heap.size + 0) wr B) := fun B h1 h2 h3 h => by
            rcases h with h | h | h
            · exact h2 h
            · exact h3 h
            · omega
          have HA3 := Lib.hid (HA.out.fr hf (fun b' off' e h => nb _ (by have := hab b' off' e h; omega) (by have := hab b' off' e h; omega) (hMb b' off' e h)))
          have hs3 := hf.size
          have HJ4 := Lib.hid hJ4
          clear hf hJ4 nb
          gi_wp2
          go_roundw
          case rel => exact ⟨k + 1, by omega, by go_num, by rw [HF.out]; exact HJ4.out, by omega, HA3⟩
          case measure => simp [intOf]; omega
        · clear hf
          gi_wp2
          refine bodyPost_ret (results_none rfl _ _ _) rfl ?_
          exact ⟨⟨_, rfl⟩, .inr ⟨_, trivial, hJx3⟩⟩
    · obtain rfl : k = n := by omega
      gi_wp2
      go_end0
      exact ⟨⟨_, rfl⟩, .inl ⟨_, rfl, hJ⟩⟩
end
theorem missing_mk (a : Option Addr) (n cap : Nat) (w : World) :
    Calls Try.prog 15 #[.slice a n cap] w fun e w' => e = .returned (.func (.func 24) #[] #[.pointer (some ⟨w.heap.size, 0, none⟩)]) ∧ w.alloc (.cells #[.slice a n cap] 25) = w' := by
  go_enter Try.func15, Try.ntmps15
  go_wp2
  go_ret
  exact ⟨rfl, rfl⟩
theorem missing_it (a : Option Addr) (n cap : Nat) (f : Nat → Int) (w : World) (hn : n ≤ 2000) (hA : IAt w a n f) :
    ItOf (w.alloc (.cells #[.slice a n cap] 25)) 24 #[.pointer (some ⟨w.heap.size, 0, none⟩)] (fl (mW f) n) 0 := by
  refine ⟨enters_of Try.func24 (by kernel_rfl) rfl, fun M W hW hM => ?_⟩
  have hs := hW.size
  simp only [World.size_alloc] at hs hM
  have fw : Fr (fun _ => False) w W := ((Fr.refl w).alloc _).call hW
  have keep : W.cell? ⟨w.heap.size, 0, none⟩ = some (.slice a n cap) := (hW.cell (p := ⟨w.heap.size, 0, none⟩) (by simp)).trans (by simp [go_sem])
  refine ⟨_, _, ?_, fun _ h => h, missing1_fr 5 (by omega) w.heap.size a n cap f M W (fun h => by have := hM _ h; omega) (fun b off e h0 h => ?_) hn keep (hA.fr fw (fun _ _ _ _ => id))⟩
  · rintro pre x ⟨rfl, h1, h2⟩
    exact fl_split2 h2 h1
  · obtain ⟨b', off', e', h1, _⟩ := hA 0 h0
    rw [e] at e'
    cases e'
    have := hM _ h
    omega
/-- What Missing answers. -/
def msE (n : Nat) (f : Nat → Int) : Int := if decide (GoodG n f) then 0 else 1
def msL (n : Nat) (f : Nat → Int) : List (Int × Int) := if decide (GoodG n f) then spS (fl (mW f) n) else []
section
attribute [local go_sem] After.cell After.frozen After.lt After.le After.ne After.ne' After.set_eq After.size_set After.lt_add
set_option maxRecDepth 100000 in
set_option maxHeartbeats 1000000 in
theorem missing_say (a : Option Addr) (n cap : Nat) (f : Nat → Int) (w : World) (hA : IAt w a n f) :
    Calls Try.prog 8 #[.slice a n cap] w fun e w' => (∃ v, e = .returned (.tuple #[v, .int .i64 (msE n f)]) ∧ SpRow w' w.heap.size v (msL n f)) ∧ Below w.heap.size w w' := by
  have HV := Lib.hid (validGusts_any a n cap f w hA)
  have HA := Lib.hid hA
  unfold msE msL
  cases hk : decide (GoodG n f)
  · rw [hk] at HV
    go_enter Try.func8, Try.ntmps8
    go_wp2_with fail
    refine calls_after HV.out ?_
    intro x1
    go_wp2
    go_returns
    exact ⟨⟨_, rfl, World.ownsRow_nil _ _ _ _⟩, by (repeat' (first | (with_reducible exact Below.refl _ _) | (with_reducible assumption) | (with_reducible refine Below.alloc ?_ ?_ _) | (with_reducible refine Below.drew ?_) | (with_reducible refine below_drewN ?_ _) | (with_reducible refine Below.setCell ?_ ?_ _) | (with_reducible refine below_after ?_ ?_ _) | (with_reducible refine below_set ?_) | (with_reducible refine After.size_le _ ?_) | (with_reducible refine size_alloc_le ?_) | (with_reducible refine size_set_le ?_) | (with_reducible refine size_drewN_le ?_) | go_size))⟩
  · have hn := (of_decide_eq_true hk).1
    rw [hk] at HV
    have HM := Lib.hid (fun w => missing_mk a n cap w)
    go_enter Try.func8, Try.ntmps8
    go_wp2_with fail
    refine calls_after HV.out ?_
    intro x1
    have hB1 := x1.out
    have hs1 := hB1.size
    have HI := Lib.hid (missing_it a n cap f x1.w hn (HA.out.on hB1))
    have HS := Lib.hid (spans_any _ _ _ _ _ HI.out (fun x hx => by have := (fl_lt hx).1; omega) (Nat.le_trans (fl_len _ _) hn))
    clear HI
    go_wp2_with fail
    refine (HM.out _).mono ?_
    rintro e w2 ⟨rfl, rfl⟩
    go_wp2_with fail
    refine HS.out.mono ?_
    rintro e w3 ⟨⟨v, rfl, hv⟩, hb3⟩
    have hB3 : Below w.heap.size w w3 := hB1.trans (Below.trans (by (repeat' (first | (with_reducible exact Nat.le_refl _) | (with_reducible exact Below.refl _ _) | (with_reducible assumption) | (with_reducible refine Below.alloc ?_ ?_ _) | (with_reducible refine Below.drew ?_) | (with_reducible refine below_drewN ?_ _) | (with_reducible refine Below.setCell ?_ ?_ _) | (with_reducible refine below_after ?_ ?_ _) | (with_reducible refine below_set ?_) | (with_reducible refine After.size_le _ ?_) | (with_reducible refine size_alloc_le ?_) | (with_reducible refine size_set_le ?_) | (with_reducible refine size_drewN_le ?_) | go_size))) (hb3.mono (by simp; omega)))
    have HV3 := Lib.hid (Go.Joins.ownsRow_le (base' := w.heap.size) hv (by simp; omega))
    have HB3 := Lib.hid hB3
    clear hv hb3 hB3
    go_wp2
    go_returns
    exact ⟨⟨v, rfl, HV3.out⟩, HB3.out⟩
end
end Go.Proofs.Ytlnlgboeohfpdaa.Tw
