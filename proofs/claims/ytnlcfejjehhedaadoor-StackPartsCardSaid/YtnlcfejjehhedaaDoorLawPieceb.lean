/- StackParts: what the callees answer, and the law of any stack. -/
import Derived.Test.YtnlcfejjehhedaaDoorLawPieces
namespace Go.Proofs.YtnlcfejjehhedaaDoor
open Go.RowKit

theorem bsay_at {w : World} {v : Value} {n : Nat} {f : Nat → Nat → Int} (h : Crs w w.heap.size v n f) (hG : GoodC n f) {j : Nat} (hj : j < n) : BSay w v (j : Nat) (bI f n j) 0 := by
  have := bsay h (by have := hG.2.1; omega) (j : Nat)
  rwa [if_pos hG, if_pos hG, show bdV f n (j : Nat) = bI f n j by unfold bdV; rw [if_pos (by omega)]; simp, show bdE n (j : Nat) = 0 from if_pos (by omega)] at this
theorem BSay.later {w W : World} {v : Value} {i : Int} {bv : BedV} {e : Int} (hB : BSay w v i bv e) (hW : Below w.heap.size w W) : BSay W v i bv e := fun V hV => hB V (hW.trans (hV.mono hW.size))
theorem weight_at {w : World} {a : Option Addr} {n cap : Nat} {f : Nat → Nat → Int} (h : Crs w w.heap.size (.slice a n cap) n f) (hG : GoodC n f) {j : Nat} (hj : j < n) :
    LSay w 19 #[.slice a n cap, .int .i64 (j : Nat)] (.tuple #[.int .i64 (bI f n j).wt, .int .i64 0]) := fun W hW => weight_any a n cap _ _ _ W ((bsay_at h hG hj).later hW)
theorem centre_at {w : World} {a : Option Addr} {n cap : Nat} {f : Nat → Nat → Int} (h : Crs w w.heap.size (.slice a n cap) n f) (hG : GoodC n f) {j : Nat} (hj : j < n) :
    LSay w 21 #[.slice a n cap, .int .i64 (j : Nat)] (.tuple #[.agg #[.int .i64 (ratN (bI f n j).ea (bI f n j).wt), .int .i64 (ratD (bI f n j).ea (bI f n j).wt)], .agg #[.int .i64 (ratN (bI f n j).no (bI f n j).wt), .int .i64 (ratD (bI f n j).no (bI f n j).wt)], .int .i64 0]) := fun W hW => centre_ok a n cap _ _ W ((bsay_at h hG hj).later hW) (inB_bI hG hj)
theorem asay_at {w : World} {a : Option Addr} {n cap : Nat} {f : Nat → Nat → Int} (h : Crs w w.heap.size (.slice a n cap) n f) (hG : GoodC n f) {j : Nat} (hj : j < n) (p s : Int) : ASay w (.slice a n cap) (j : Nat) p s (wiV (bI f n j) 0 p s) (wiE 0 p s) := fun W hW => bedInWind_any a n cap _ p s _ W ((bsay_at h hG hj).later hW)
theorem ASay.later {w W : World} {v : Value} {i p s : Int} {bv : BedV} {e : Int} (hB : ASay w v i p s bv e) (hW : Below w.heap.size w W) : ASay W v i p s bv e := fun V hV => hB V (hW.trans (hV.mono hW.size))
theorem moment_at {w : World} {a : Option Addr} {n cap : Nat} {f : Nat → Nat → Int} (h : Crs w w.heap.size (.slice a n cap) n f) (hG : GoodC n f) {j : Nat} (hj : j < n) (p : Int) (h0 : 0 ≤ p) (h1 : p ≤ 10000) :
    LSay w 25 #[.slice a n cap, .int .i64 (j : Nat), .int .i64 p] (.tuple #[.agg #[.int .i64 (ratN (p * (bI f n j).pu) 1000000), .int .i64 (ratD (p * (bI f n j).pu) 1000000)], .int .i64 0]) := fun W hW => by
  have hA := (asay_at h hG hj p 0).later hW
  have hw : WindOk p 0 := ⟨⟨h0, h1⟩, by constructor <;> omega⟩
  rw [show wiV (bI f n j) 0 p 0 = bI f n j from if_neg (fun h => h.2 hw), show wiE 0 p 0 = 0 from if_neg (fun h => h.2 hw)] at hA
  exact moment_ok a n cap _ p _ W hA (inB_bI hG hj) h0 h1
theorem moment_no {w : World} {a : Option Addr} {n cap : Nat} {f : Nat → Nat → Int} (h : Crs w w.heap.size (.slice a n cap) n f) (hG : GoodC n f) {j : Nat} (hj : j < n) (p : Int) (hp : ¬ (0 ≤ p ∧ p ≤ 10000)) :
    LSay w 25 #[.slice a n cap, .int .i64 (j : Nat), .int .i64 p] (.tuple #[.agg #[.int .i64 0, .int .i64 0], .int .i64 7]) := fun W hW => by
  have hA := (asay_at h hG hj p 0).later hW
  have hw : ¬ WindOk p 0 := fun h => hp h.1
  rw [show wiV (bI f n j) 0 p 0 = zbed from if_pos ⟨rfl, hw⟩, show wiE 0 p 0 = 7 from if_pos ⟨rfl, hw⟩] at hA
  exact moment_err a n cap _ p 7 W hA rfl

theorem stackParts_any (v : Value) (n : Nat) (f : Nat → Nat → Int) (i p : Int) (w : World) (hT : Tab w) (h : Crs w w.heap.size v n f) :
    Calls Tryd.prog 11 #[v, .int .i64 i, .int .i64 p] w fun e w' => e = .returned (.bool true) ∧ Below w.heap.size w w' := by
  by_cases ho : 60 < n ∨ i < 0 ∨ n ≤ i
  · obtain ⟨a, cap, rfl, _⟩ := h
    exact stackParts_out a n cap i p w hT ho
  · obtain ⟨k, rfl⟩ := Int.eq_ofNat_of_zero_le (show 0 ≤ i by omega)
    have hk : k < n := by omega
    have h60 : n ≤ 60 := by omega
    by_cases hG : GoodC n f
    · have h' := h
      obtain ⟨a, cap, rfl, hh⟩ := h'
      obtain ⟨b, off, rfl, hb, hc⟩ := hh hG.1
      have H1 := weight_at h hG hk
      have H2 := centre_at h hG hk
      have H5 := moment_at h hG hk 1 (by omega) (by omega)
      have HA : ∀ W, Below w.heap.size w W → Calls Tryd.prog 14 #[] W fun e w' => e = .returned (.bool true) ∧ Below W.heap.size W w' := fun W hW => awake_any W (hT.on hW)
      have HC := fun W (hW : Below w.heap.size w W) => (hc.on hb hW) k hk
      have hI := inB_bI hG hk
      have hO := hG.2.2 k hk
      unfold OkC InCr at hO
      have hn := bI_next (f := f) hk
      have e1 : (bI f n k).wt = f k 3 + (bI f n (k + 1)).wt := by rw [hn]; simp [BedV.onto]; omega
      have e2 : (bI f n k).ea = f k 3 * f k 4 + (bI f n (k + 1)).ea := by rw [hn]; simp [BedV.onto]; omega
      have e3 : (bI f n k).no = f k 3 * f k 5 + (bI f n (k + 1)).no := by rw [hn]; simp [BedV.onto]; omega
      clear hn
      obtain ⟨i1, i2, i3, i4, i5, i6, i7, i8, _⟩ := hI
      have m0 := rat_small (n := 1 * (bI f n k).pu) (d := 1000000) (A := 145200000000000) (by omega) (by omega) (by omega)
      have hD1 := dv_rat i1 i2 i3 i4
      have hD2 := dv_rat i1 i2 i5 i6
      have g3 : 0 ≤ f k 3 ∧ f k 3 ≤ 1000000 := by omega
      have g4 : -5000 ≤ f k 4 ∧ f k 4 ≤ 5000 := by omega
      have g5 : -5000 ≤ f k 5 ∧ f k 5 ≤ 5000 := by omega
      by_cases hl : k + 1 < n
      · have H3 := weight_at h hG hl
        have H4 := centre_at h hG hl
        rw [show ((k + 1 : Nat) : Int) = (k : Int) + 1 by omega] at H3 H4
        obtain ⟨j1, j2, j3, j4, j5, j6, _⟩ := inB_bI hG hl
        have hD3 := dv_rat j1 j2 j3 j4
        have hD4 := dv_rat j1 j2 j5 j6
        have hq : Pn.ok ⟨(bI f n k).wt, (bI f n (k + 1)).wt, f k 0, f k 1, f k 2, f k 3, f k 4, f k 5, ratN (bI f n k).ea (bI f n k).wt, ratD (bI f n k).ea (bI f n k).wt, ratN (bI f n k).no (bI f n k).wt, ratD (bI f n k).no (bI f n k).wt, ratN (bI f n (k + 1)).ea (bI f n (k + 1)).wt, ratD (bI f n (k + 1)).ea (bI f n (k + 1)).wt, ratN (bI f n (k + 1)).no (bI f n (k + 1)).wt, ratD (bI f n (k + 1)).no (bI f n (k + 1)).wt, (bI f n k).ea, (bI f n k).no, (bI f n (k + 1)).ea, (bI f n (k + 1)).no⟩ :=
          ⟨hD1, hD2, hD3, hD4, g3, g4, g5, ⟨by show 0 ≤ (bI f n (k + 1)).wt; omega, j2⟩, ⟨by show 0 ≤ (bI f n k).wt; omega, i2⟩, e1, e2, e3, ⟨i3, i4⟩, ⟨i5, i6⟩, ⟨j3, j4⟩, ⟨j5, j6⟩⟩
        by_cases hp : 0 ≤ p ∧ p ≤ 10000
        · obtain ⟨m1, m2⟩ := prod_bd (a := ratN (1 * (bI f n k).pu) 1000000) (b := p) (A := 145200000000000) (B := 10000) (by omega) (by omega) (by omega) (by omega)
          simp only [Int.reduceMul, Int.reduceNeg] at m1 m2
          obtain ⟨t1, t2⟩ := rat_times (n := (bI f n k).pu) (d := 1000000) (p := p) (by omega)
          have h4 : 1 ≤ ratD (p * (bI f n k).pu) 1000000 := (rat_facts (n := p * (bI f n k).pu) (d := 1000000) (by omega)).2.2.2.1
          exact stackParts_more b off cap n k p _ _ _ _ _ w h60 hl hb hq HC H1 H2 H3 H4 H5 (moment_at h hG hk p hp.1 hp.2) (fun W => by
            rw [← t1, ← t2]
            exact rlowest_any _ _ W (by omega) (by omega) m0.2.2.1 (by omega)) ⟨⟨by omega, by omega⟩, m0.2.2.1, h4⟩ HA
        · exact stackParts_more0 b off cap n k p _ _ 7 _ w h60 hl hb hq HC H1 H2 H3 H4 H5 (moment_no h hG hk p hp) rfl HA
      · have hl' : k + 1 = n := by omega
        have hz : bI f n (k + 1) = zbed := by rw [hl']; exact bI_top f n
        rw [hz] at e1 e2 e3
        have hq := And.intro hD1 (And.intro hD2 (And.intro g3 (And.intro g4 (And.intro g5 (And.intro (show (bI f n k).wt = f k 3 by rw [e1]; simp [zbed]) (And.intro (show (bI f n k).ea = f k 3 * f k 4 by rw [e2]; simp [zbed]) (show (bI f n k).no = f k 3 * f k 5 by rw [e3]; simp [zbed])))))))
        by_cases hp : 0 ≤ p ∧ p ≤ 10000
        · obtain ⟨m1, m2⟩ := prod_bd (a := ratN (1 * (bI f n k).pu) 1000000) (b := p) (A := 145200000000000) (B := 10000) (by omega) (by omega) (by omega) (by omega)
          simp only [Int.reduceMul, Int.reduceNeg] at m1 m2
          obtain ⟨t1, t2⟩ := rat_times (n := (bI f n k).pu) (d := 1000000) (p := p) (by omega)
          have h4 : 1 ≤ ratD (p * (bI f n k).pu) 1000000 := (rat_facts (n := p * (bI f n k).pu) (d := 1000000) (by omega)).2.2.2.1
          exact stackParts_last b off cap n k p _ _ _ _ _ _ _ _ _ _ _ _ _ _ _ _ _ w h60 hl' hb hq HC H1 H2 H5 (moment_at h hG hk p hp.1 hp.2) (fun W => by
            rw [← t1, ← t2]
            exact rlowest_any _ _ W (by omega) (by omega) m0.2.2.1 (by omega)) ⟨⟨by omega, by omega⟩, m0.2.2.1, h4⟩ HA
        · exact stackParts_last0 b off cap n k p _ _ 7 _ _ _ _ _ _ _ _ _ _ _ _ _ w h60 hl' hb hq HC H1 H2 H5 (moment_no h hG hk p hp) rfl HA
    · have hB := bsay h (by omega) (k : Nat)
      rw [if_neg hG, if_neg hG] at hB
      obtain ⟨a, cap, rfl, _⟩ := h
      exact stackParts_bad a n cap _ p 1 w hT h60 (by omega) (by omega) rfl (fun W hW => weight_any a n cap _ zbed 1 W (hB.later hW))
end Go.Proofs.YtnlcfejjehhedaaDoor
