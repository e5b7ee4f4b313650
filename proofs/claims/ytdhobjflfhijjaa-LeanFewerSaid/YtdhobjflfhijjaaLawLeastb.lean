/- LeanLeast for every line and slice of points. -/
import Derived.Test.YtdhobjflfhijjaaLawLeast
import Derived.Test.YtdhobjflfhijjaaLeastb
import Derived.Test.YtdhobjflfhijjaaPtsv
namespace Go.Proofs.Ytdhobjflfhijjaa
open Go.RowKit

theorem cmp3_ge {a b : Int} (h : b ≤ a) : cmp3 a b = 0 ∧ a = b ∨ 1 ≤ cmp3 a b := by
  unfold cmp3
  rcases (show a = b ∨ b < a by omega) with h | h
  · subst h; left; simp
  · right; rw [if_neg (by omega), if_pos h]; omega
theorem rat_64 {n d : Int} (hd : 1 ≤ d) (hn : In64 n) (hd' : In64 d) : In64 (ratN n d) ∧ In64 (ratD n d) := by
  obtain ⟨e1, e2, e3, e4, _⟩ := rat_facts (n := n) hd
  unfold In64 at *
  have a := mul_bd (A := 9223372036854775807) (x := ratD n d) e3 (by omega) (by omega)
  have b := mul_bd (A := 9223372036854775808) (x := ratN n d) e3 (by omega) (by omega)
  refine ⟨⟨by omega, ?_⟩, by omega⟩
  rcases Int.lt_or_le (ratN n d) 0 with h | h
  · omega
  · have : 1 * ratN n d ≤ (Int.gcd n d : Int) * ratN n d := Int.mul_le_mul_of_nonneg_right e3 h
    omega
theorem wo_64 {x : Int × Int × Int} {ps : List (Int × Int)} (hL : InBd x.1 x.2.1 x.2.2) (hG : GoodPts ps) : 0 ≤ woF x ps ∧ woF x ps ≤ 400000000000000000 := by
  have := offV_bd hL (goodPts_at hG _ (worI_lt (x := x) hG.1))
  unfold woF farV ptAt
  omega

theorem leanLeast_any (a b d : Int) (v : Value) (ps : List (Int × Int)) (w : World) (h : Pts w w.heap.size v ps) :
    Calls Try.prog 8 #[.agg #[.int .i64 a, .int .i64 b, .int .i64 d], v] w fun e w' => e = .returned (.bool true) ∧ Below w.heap.size w w' := by
  by_cases hl : ps.length ≤ 100
  · have hs := say_pts h hl
    have on : ∀ {W : World}, Below w.heap.size w W → PtsSay W v (decide (GoodPts ps)) := fun hW W' hW' => hs W' (hW.trans (hW'.mono hW.size))
    by_cases hL : GoodLine a b d
    · by_cases hG : GoodPts ps
      · obtain ⟨bl, off, cap, rfl, hb, hc⟩ := pts_good h hG
        have HC := fun W => rcompare_any (ratN (woF (a, b, d) ps) d) (ratD (woF (a, b, d) ps) d) (ratN (woF (neL ps) ps) (neD ps)) (ratD (woF (neL ps) ps) (neD ps)) W
        have hd := inBd_d hL.1
        have hN : 1 ≤ neD ps ∧ neD ps ≤ 1000000000000000000 := inBd_d (neL_good hG).1
        have w1 := wo_64 (x := (a, b, d)) hL.1 hG
        have w2 := wo_64 (neL_good hG).1 hG
        have r1 := rat_64 (n := woF (a, b, d) ps) (d := d) hd.1 (by unfold In64; omega) (by unfold In64; omega)
        have r2 := rat_64 (n := woF (neL ps) ps) (d := neD ps) hN.1 (by unfold In64; omega) (by unfold In64; omega)
        have HC := fun W => HC W r1.1 r1.2 r2.1 r2.2
        obtain ⟨m1, m2⟩ := least_main (x := (a, b, d)) hL hG
        rw [cmp_rat hd.1 hN.1] at HC
        have HW : Hid (∀ W, Below w.heap.size w W → _) := fun W hW => worst_ok bl off cap (a, b, d) ps W (Nat.lt_of_lt_of_le hb hW.size) (cells_on hb hc hW) hL hG
        have HB : Hid (∀ W, Below w.heap.size w W → _) := fun W hW => bend_ok bl off cap ps W (Nat.lt_of_lt_of_le hb hW.size) (cells_on hb hc hW) hG
        have HN : Hid (∀ W, Below w.heap.size w W → _) := fun W hW => nearest_any bl off cap ps W (Nat.lt_of_lt_of_le hb hW.size) (by omega) (cells_on hb hc hW)
        rw [(ne_mk hG).2.2.2] at HN
        have HO : Hid (∀ W, Below w.heap.size w W → _) := fun W hW => worst_ok bl off cap (neL ps) ps W (Nat.lt_of_lt_of_le hb hW.size) (cells_on hb hc hW) (neL_good hG) hG
        rcases cmp3_ge m1 with ⟨c0, e⟩ | c1
        · refine leanLeast_one _ _ _ _ _ _ _ _ _ _ _ _ _ _ w (eq3 a b d (neA ps) (neB ps) (neD ps)) _ hl 0 HW HB HN HO (Lib.hid (fun W => by have := HC W; rw [c0] at this; exact this)) rfl rfl ?_
          rcases (show ps.length = 1 ∨ 2 ≤ ps.length by have := hG.1; omega) with h | h
          · exact .inr h
          · left
            have e := m2 h e.symm
            unfold neL at e
            simp only [Prod.mk.injEq] at e
            rw [e.1, e.2.1, e.2.2]
            exact eq3_self _ _ _
        · exact leanLeast_more _ _ _ _ _ _ _ _ _ _ _ _ _ _ _ _ w hl HW HB HN HO (Lib.hid HC) c1
      · obtain ⟨ad, cap, rfl⟩ := pts_slice h
        exact leanLeast_bad a b d ad _ cap w hl (Lib.hid fun W hW => worst_pts a b d _ W hL (by have := on hW; rwa [decide_eq_false hG] at this))
    · obtain ⟨ad, cap, rfl⟩ := pts_slice h
      exact leanLeast_bad a b d ad _ cap w hl (Lib.hid fun W _ => worst_line a b d _ W hL)
  · obtain ⟨ad, cap, rfl⟩ := pts_slice h
    exact leanLeast_long a b d ad ps.length cap w (by omega)
end Go.Proofs.Ytdhobjflfhijjaa
