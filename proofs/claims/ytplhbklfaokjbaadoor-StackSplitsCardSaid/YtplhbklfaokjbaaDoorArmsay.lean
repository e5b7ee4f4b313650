/- What Arm, Moment, Closed and Holds answer of any stack, in both programs. -/
import Derived.Test.YtplhbklfaokjbaaDoorArmw
import Derived.Test.YtplhbklfaokjbaaDoorRarmw
namespace Go.Proofs.YtplhbklfaokjbaaDoor
open Go.RowKit

theorem BSay.on2 {w W : World} {v : Value} {i : Int} {bv : BedV} {e : Int} (hB : BSay w v i bv e) (hW : Below w.heap.size w W) : BSay W v i bv e := fun V hV => hB V (hW.trans (hV.mono hW.size))
theorem ESay.on2 {w W : World} {v : Value} {i p s e : Int} (hB : ESay w v i p s e) (hW : Below w.heap.size w W) : ESay W v i p s e := fun V hV => hB V (hW.trans (hV.mono hW.size))
theorem ASay.on2 {w W : World} {v : Value} {i p s : Int} {bv : BedV} {e : Int} (hB : ASay w v i p s bv e) (hW : Below w.heap.size w W) : ASay W v i p s bv e := fun V hV => hB V (hW.trans (hV.mono hW.size))
theorem OSay.on2 {w W : World} {v : Value} {i : Int} {bv : BedV} (hB : OSay w v i bv) (hW : Below w.heap.size w W) : OSay W v i bv := fun V hV => hB V (hW.trans (hV.mono hW.size))
theorem KSay.on2 {w W : World} {b off k : Nat} {F : Nat → Int} (hB : KSay w b off k F) (hW : Below w.heap.size w W) : KSay W b off k F := fun V hV => hB V (hW.trans (hV.mono hW.size))
theorem RSay.on2 {w W : World} {v : Value} {k p s E N D : Int} (hB : RSay w v k p s E N D) (hW : Below w.heap.size w W) : RSay W v k p s E N D := fun V hV => hB V (hW.trans (hV.mono hW.size))

/-- A bed in a wind, or the error of both programs. -/
theorem winds {w : World} {a : Option Addr} {n cap : Nat} {f : Nat → Nat → Int} (h : Crs w w.heap.size (.slice a n cap) n f) (hl : n ≤ 1000) (i p s : Int) :
    (GoodC n f ∧ 0 ≤ i ∧ i < n ∧ WindOk p s) ∨ ∃ e : Int, (e == 0) = false ∧ ASay w (.slice a n cap) i p s zbed e ∧ ESay w (.slice a n cap) i p s e := by
  have hB := bsay h hl i
  have hE := esay h hl i p s
  by_cases hG : GoodC n f
  · rw [if_pos hG, if_pos hG] at hB
    rw [if_pos hG] at hE
    by_cases hi : 0 ≤ i ∧ i < n
    · by_cases hw : WindOk p s
      · exact .inl ⟨hG, hi.1, hi.2, hw⟩
      · rw [show beE n i p s = 7 from if_neg (fun h => hw h.2)] at hE
        rw [show bdE n i = 0 from if_pos hi] at hB
        refine .inr ⟨7, rfl, fun W hW => ?_, hE⟩
        have := bedInWind_any a n cap i p s _ W (hB.on2 hW)
        rwa [show wiV (bdV f n i) 0 p s = zbed from if_pos ⟨rfl, hw⟩, show wiE 0 p s = 7 from if_pos ⟨rfl, hw⟩] at this
    · rw [show beE n i p s = 7 from if_neg (fun h => hi (by have := h.1; unfold Btw at this; omega))] at hE
      rw [show bdE n i = 7 from if_neg hi, show bdV f n i = zbed from if_neg hi] at hB
      exact .inr ⟨7, rfl, fun W hW => bedInWind_err a n cap i p s 7 W (hB.on2 hW) rfl, hE⟩
  · rw [if_neg hG, if_neg hG] at hB
    rw [if_neg hG] at hE
    exact .inr ⟨1, rfl, fun W hW => bedInWind_err a n cap i p s 1 W (hB.on2 hW) rfl, hE⟩
/-- What there is to know of a bed in a wind. -/
theorem winds_in {w : World} {a : Option Addr} {n cap : Nat} {f : Nat → Nat → Int} (h : Crs w w.heap.size (.slice a n cap) n f) (hG : GoodC n f) {k : Nat} (hk : k < n) {p : Int} {s : Nat} (hw : WindOk p (s : Nat)) :
    ASay w (.slice a n cap) (k : Nat) p (s : Nat) (bI f n k) 0 ∧ ESay w (.slice a n cap) (k : Nat) p (s : Nat) 0 ∧ OSay w (.slice a n cap) (k : Nat) (bI f n k) ∧
      RSay w (.slice a n cap) (k : Nat) p (s : Nat) (amE (bI f n k) p s) (amN (bI f n k) p s) (9810000 * (bI f n k).wt) ∧ ∃ b off, a = some ⟨b, off, none⟩ ∧ b < w.heap.size ∧ KSay w b off k (bI f n k).c := by
  have h60 := hG.2.1
  have hB := bsay h (by omega) (k : Nat)
  have hE := esay h (by omega) (k : Nat) p (s : Nat)
  have hO := osay h hG (i := (k : Nat)) (by omega) (by omega)
  have hb0 : (0 : Int) ≤ (k : Nat) ∧ ((k : Nat) : Int) < n := by omega
  rw [if_pos hG, if_pos hG, show bdV f n (k : Nat) = bI f n k by unfold bdV; rw [if_pos hb0]; simp, show bdE n (k : Nat) = 0 from if_pos hb0] at hB
  rw [if_pos hG, show beE n (k : Nat) p (s : Nat) = 0 from if_pos ⟨by unfold Btw; omega, hw⟩] at hE
  simp only [Int.toNat_natCast] at hO
  have hh := h
  obtain ⟨a', cap', e1, hc⟩ := hh
  cases e1
  obtain ⟨b, off, rfl, hb, hc⟩ := hc hG.1
  have hK : KSay w b off k (bI f n k).c := fun W hW => by rw [(bI_ix (f := f) hk).2]; exact (hc.on hb hW) k hk
  have hs : s < 4 := by have := hw.2; unfold Btw at this; omega
  refine ⟨fun W hW => ?_, hE, hO, fun W hW => ?_, b, off, rfl, hb, hK⟩
  · have := bedInWind_any (some ⟨b, off, none⟩) n cap (k : Nat) p (s : Nat) _ W (hB.on2 hW)
    rwa [show wiV (bI f n k) 0 p (s : Nat) = bI f n k from if_neg (fun h => h.2 hw), show wiE 0 p (s : Nat) = 0 from if_neg (fun h => h.2 hw)] at this
  · exact rarm_any b off cap n k p s (bI f n k) W hk h60 (Nat.lt_of_lt_of_le hb hW.size) hs hw.1.1 hw.1.2 (inB_bI hG hk) (fun V hV => by
      obtain ⟨-, -, -, -, q4, q5⟩ := (hK.on2 hW) V hV
      exact ⟨q4, q5⟩) (hO.on2 hW)

theorem arms {w : World} {a : Option Addr} {n cap : Nat} {f : Nat → Nat → Int} (hT : Tab w) (h : Crs w w.heap.size (.slice a n cap) n f) (hl : n ≤ 1000) (i p s : Int) :
    ∃ aN aD bN bD e : Int, LSay w 23 #[.slice a n cap, .int .i64 i, .int .i64 p, .int .i64 s] (.tuple #[.agg #[.int .i64 aN, .int .i64 aD], .agg #[.int .i64 bN, .int .i64 bD], .int .i64 e]) ∧
      LSay w 24 #[.slice a n cap, .int .i64 i, .int .i64 p, .int .i64 s] (.tuple #[.agg #[.int .i64 aN, .int .i64 aD], .agg #[.int .i64 bN, .int .i64 bD], .int .i64 e]) := by
  rcases winds h hl i p s with ⟨hG, h0, hi, hw⟩ | ⟨e, he, hA, hE⟩
  · obtain ⟨k, rfl⟩ := Int.eq_ofNat_of_zero_le h0
    obtain ⟨s, rfl⟩ := Int.eq_ofNat_of_zero_le hw.2.1
    have hk : k < n := by omega
    have hs : s < 4 := by have := hw.2; unfold Btw at this; omega
    obtain ⟨hA, hE, hO, hR, b, off, rfl, hb, hK⟩ := winds_in h hG hk hw
    have hI := inB_bI hG hk
    obtain ⟨-, -, -, -, -, -, -, -, ⟨m1, m2⟩, m3, m4⟩ := am_bd s hI hw.1.1 hw.1.2
    have i1 := hI.1
    have i2 := hI.2.1
    exact ⟨_, _, _, _, _, fun W hW => armR_ok _ n cap _ p s _ W (hA.on2 hW) hI (hT.on hW) hs hw.1.1 hw.1.2, fun W hW => rarmR_ok _ _ p s _ _ _ W (hE.on2 hW) (hR.on2 hW) (by omega) (by omega) (by omega) (by omega) (by omega) (by omega)⟩
  · exact ⟨0, 0, 0, 0, e, fun W hW => arm_err a n cap i p s e W (hA.on2 hW) he, fun W hW => rarmR_err _ i p s e W (hE.on2 hW) he⟩
theorem moments {w : World} {a : Option Addr} {n cap : Nat} {f : Nat → Nat → Int} (h : Crs w w.heap.size (.slice a n cap) n f) (hl : n ≤ 1000) (i p : Int) :
    ∃ N D e : Int, LSay w 25 #[.slice a n cap, .int .i64 i, .int .i64 p] (.tuple #[.agg #[.int .i64 N, .int .i64 D], .int .i64 e]) ∧
      LSay w 26 #[.slice a n cap, .int .i64 i, .int .i64 p] (.tuple #[.agg #[.int .i64 N, .int .i64 D], .int .i64 e]) := by
  rcases winds h hl i p 0 with ⟨hG, h0, hi, hw⟩ | ⟨e, he, hA, hE⟩
  · obtain ⟨k, rfl⟩ := Int.eq_ofNat_of_zero_le h0
    have hk : k < n := by omega
    obtain ⟨hA, hE, hO, hR, b, off, rfl, hb, hK⟩ := winds_in h hG hk (s := 0) hw
    have hI := inB_bI hG hk
    exact ⟨_, _, _, fun W hW => moment_ok _ n cap _ p _ W (hA.on2 hW) hI hw.1.1 hw.1.2, fun W hW => rmoment_ok _ _ p _ W (hE.on2 hW) (hO.on2 hW) hI hw.1.1 hw.1.2⟩
  · exact ⟨0, 0, e, fun W hW => moment_err a n cap i p e W (hA.on2 hW) he, fun W hW => rmoment_err _ i p e W (hE.on2 hW) he⟩
theorem closeds {w : World} {a : Option Addr} {n cap : Nat} {f : Nat → Nat → Int} (hT : Tab w) (h : Crs w w.heap.size (.slice a n cap) n f) (hl : n ≤ 1000) (i p s : Int) :
    ∃ (z : Bool) (e : Int), LSay w 27 #[.slice a n cap, .int .i64 i, .int .i64 p, .int .i64 s] (.tuple #[.bool z, .int .i64 e]) ∧ LSay w 28 #[.slice a n cap, .int .i64 i, .int .i64 p, .int .i64 s] (.tuple #[.bool z, .int .i64 e]) := by
  rcases winds h hl i p s with ⟨hG, h0, hi, hw⟩ | ⟨e, he, hA, hE⟩
  · obtain ⟨k, rfl⟩ := Int.eq_ofNat_of_zero_le h0
    obtain ⟨s, rfl⟩ := Int.eq_ofNat_of_zero_le hw.2.1
    have hk : k < n := by omega
    have hs : s < 4 := by have := hw.2; unfold Btw at this; omega
    obtain ⟨hA, hE, hO, hR, b, off, rfl, hb, hK⟩ := winds_in h hG hk hw
    have hI := inB_bI hG hk
    have hJ := inO_bI hG hk
    exact ⟨_, _, fun W hW => closed_ok _ n cap _ p s _ _ W (hA.on2 hW) (fun V hV => closed_any _ p s V ((hT.on hW).on hV) hI hJ hs hw.1.1 hw.1.2),
      fun W hW => rclosed_ok _ _ p s _ W (hE.on2 hW) (fun V hV => rclosed_any b off cap n k p s _ V hk hG.2.1 (Nat.lt_of_lt_of_le hb (Nat.le_trans hW.size hV.size)) hw.1.1 hw.1.2 hI hJ ((hK.on2 hW).on2 hV) ((hR.on2 hW).on2 hV))⟩
  · exact ⟨false, e, fun W hW => closed_err a n cap i p s e W (hA.on2 hW) he, fun W hW => rclosed_err _ i p s e W (hE.on2 hW) he⟩
theorem holdss {w : World} {a : Option Addr} {n cap : Nat} {f : Nat → Nat → Int} (hT : Tab w) (h : Crs w w.heap.size (.slice a n cap) n f) (hl : n ≤ 1000) (i p s : Int) :
    ∃ (z : Bool) (e : Int), LSay w 29 #[.slice a n cap, .int .i64 i, .int .i64 p, .int .i64 s] (.tuple #[.bool z, .int .i64 e]) ∧ LSay w 30 #[.slice a n cap, .int .i64 i, .int .i64 p, .int .i64 s] (.tuple #[.bool z, .int .i64 e]) := by
  rcases winds h hl i p s with ⟨hG, h0, hi, hw⟩ | ⟨e, he, hA, hE⟩
  · obtain ⟨k, rfl⟩ := Int.eq_ofNat_of_zero_le h0
    obtain ⟨s, rfl⟩ := Int.eq_ofNat_of_zero_le hw.2.1
    have hk : k < n := by omega
    have hs : s < 4 := by have := hw.2; unfold Btw at this; omega
    obtain ⟨hA, hE, hO, hR, b, off, rfl, hb, hK⟩ := winds_in h hG hk hw
    have hI := inB_bI hG hk
    have hJ := inO_bI hG hk
    exact ⟨_, _, fun W hW => holds_ok _ n cap _ p s _ _ W (hA.on2 hW) (fun V hV => holds_any _ p s V ((hT.on hW).on hV) hI hJ hs hw.1.1 hw.1.2),
      fun W hW => rholds_ok _ _ p s _ W (hE.on2 hW) (fun V hV => rholds_any b off cap n k p s _ V hk hG.2.1 (Nat.lt_of_lt_of_le hb (Nat.le_trans hW.size hV.size)) hw.1.1 hw.1.2 hI hJ ((hK.on2 hW).on2 hV) ((hR.on2 hW).on2 hV))⟩
  · exact ⟨false, e, fun W hW => holds_err a n cap i p s e W (hA.on2 hW) he, fun W hW => rholds_err _ i p s e W (hE.on2 hW) he⟩
end Go.Proofs.YtplhbklfaokjbaaDoor
