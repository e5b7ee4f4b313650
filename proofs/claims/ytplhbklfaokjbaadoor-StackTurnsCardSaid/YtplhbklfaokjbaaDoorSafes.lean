/- What Safe and Least answer of any stack, in both programs. -/
import Derived.Test.YtplhbklfaokjbaaDoorLeastp
namespace Go.Proofs.YtplhbklfaokjbaaDoor
open Go.RowKit

def saV (f : Nat → Nat → Int) (n s : Nat) : Nat := if tiB f n 0 s then saN f n s else 0
def saE (f : Nat → Nat → Int) (n s : Nat) : Int := if tiB f n 0 s then 0 else 8
theorem saV_le (f : Nat → Nat → Int) (n s : Nat) : saV f n s ≤ 10000 := by
  have := saN_le f n s
  unfold saV
  split <;> omega
theorem LSay.on2 {w W : World} {F : FuncId} {args : Array Value} {r : Value} (h : LSay w F args r) (hW : Below w.heap.size w W) : LSay W F args r := fun V hV => h V (hW.trans (hV.mono hW.size))

/-- Safe of a good stack and a side. -/
theorem safe_good {w : World} {a : Option Addr} {n cap : Nat} {f : Nat → Nat → Int} (hT : Tab w) (h : Crs w w.heap.size (.slice a n cap) n f) (hl : n ≤ 1000) (hG : GoodC n f) (s : Nat) (hs : s < 4) :
    LSay w 38 #[.slice a n cap, .int .i64 s] (.tuple #[.int .i64 (saV f n s), .int .i64 (saE f n s)]) ∧ LSay w 39 #[.slice a n cap, .int .i64 s] (.tuple #[.int .i64 (saV f n s), .int .i64 (saE f n s)]) ∧
      SSay w (.slice a n cap) s (if tiB f n 0 s then (saN f n s : Int) else -1) := by
  have hw : ∀ p : Nat, p ≤ 10000 → WindOk p s := fun p hp => ⟨⟨by omega, by omega⟩, by constructor <;> omega⟩
  have hw0 : WindOk 0 s := hw 0 (by omega)
  have h60 := hG.2.1
  have h1 := hG.1
  have hW := wsay h hl 0 (s : Nat)
  have hE := esay h hl 0 0 (s : Nat)
  rw [show cwE (decide (GoodC n f)) 0 (s : Nat) = 0 by unfold cwE; rw [decide_eq_true hG, if_pos rfl, if_pos hw0]] at hW
  rw [if_pos hG, show beE n 0 0 (s : Nat) = 0 from if_pos ⟨by unfold Btw; omega, hw0⟩] at hE
  obtain ⟨-, -, -, -, b, off, rfl, hb, -⟩ := winds_in h hG (k := 0) (by omega) hw0
  have hh := h
  obtain ⟨a', cap', e1, hc⟩ := hh
  cases e1
  obtain ⟨b', off', e2, -, hc⟩ := hc hG.1
  cases e2
  have hP : PSay w (.slice (some ⟨b, off, none⟩) n cap) (s : Nat) (fun p => tiB f n (p : Nat) s) := fun p W hp hB =>
    tight_ok b off cap n f (p : Nat) s W (Nat.lt_of_lt_of_le hb hB.size) (hc.on hb hB) hG (hT.on hB) hs (by omega) (by omega)
  have hS : TSay w (.slice (some ⟨b, off, none⟩) n cap) (s : Nat) (fun p => tiB f n (p : Nat) s) := fun p W hp hB =>
    rtight_any _ n cap f (p : Nat) s W h60 (fun k U hk hU => by
      have hU' := hB.trans (hU.mono hB.size)
      obtain ⟨-, -, -, hR, b2, off2, e3, -, hK⟩ := winds_in h hG hk (hw p hp)
      cases e3
      exact rclosed_any b off cap n k (p : Nat) s _ U hk h60 (Nat.lt_of_lt_of_le hb hU'.size) (by omega) (by omega) (inB_bI hG hk) (inO_bI hG hk) (hK.on2 hU') (hR.on2 hU'))
  have hle := saN_le f n s
  have e0 : ((0 : Nat) : Int) = 0 := rfl
  by_cases h0 : tiB f n 0 s = true
  · have i1 := fun i (hi : i ≤ saN f n s) => saN_in hG h0 hi
    have i2 := fun i (hi : saN f n s < i) (hi' : i ≤ 10000) => saN_out (f := f) (n := n) (s := s) hi hi'
    have hSS : SSay w (.slice (some ⟨b, off, none⟩) n cap) s (saN f n s : Nat) := fun W hB => rsafe_some _ (s : Nat) _ (saN f n s) W (hS.on hB) h0 hle i1 i2
    rw [show saV f n s = saN f n s from if_pos h0, show saE f n s = 0 from if_pos h0, if_pos h0]
    exact ⟨fun W hB => safe_some _ n cap (s : Nat) _ (saN f n s) W (hW.on2 hB) (hP.on hB) h0 hle i1 i2, fun W hB => rSafe_some _ (s : Nat) _ W (hE.on2 hB) (fun V hV => hSS V (hB.trans (hV.mono hB.size))), hSS⟩
  · have h0' : tiB f n 0 s = false := by simpa using h0
    have hSS : SSay w (.slice (some ⟨b, off, none⟩) n cap) s (-1) := fun W hB => rsafe_none _ (s : Nat) _ W (hS.on hB) h0'
    rw [show saV f n s = 0 from if_neg h0, show saE f n s = 8 from if_neg h0, if_neg h0]
    exact ⟨fun W hB => safe_none _ n cap (s : Nat) _ W (hW.on2 hB) (hP.on hB) h0', fun W hB => rSafe_none _ (s : Nat) W (hE.on2 hB) (fun V hV => hSS V (hB.trans (hV.mono hB.size))), hSS⟩
/-- Safe of another stack, or another side. -/
theorem safe_wrong {w : World} {a : Option Addr} {n cap : Nat} {f : Nat → Nat → Int} (h : Crs w w.heap.size (.slice a n cap) n f) (hl : n ≤ 1000) (s : Int) (hno : ¬ (GoodC n f ∧ 0 ≤ s ∧ s < 4)) :
    ∃ e : Int, (e == 0) = false ∧ (¬ GoodC n f → e = 1) ∧ LSay w 38 #[.slice a n cap, .int .i64 s] (.tuple #[.int .i64 0, .int .i64 e]) ∧ LSay w 39 #[.slice a n cap, .int .i64 s] (.tuple #[.int .i64 0, .int .i64 e]) := by
  have hW := wsay h hl 0 s
  have hE := esay h hl 0 0 s
  obtain ⟨e, he, hne, hW', hE'⟩ : ∃ e : Int, (e == 0) = false ∧ (¬ GoodC n f → e = 1) ∧ WSay w (.slice a n cap) 0 s e ∧ ESay w (.slice a n cap) 0 0 s e := by
    by_cases hG : GoodC n f
    · have hw : ¬ WindOk 0 s := fun h => hno ⟨hG, by have := h.2; unfold Btw at this; omega⟩
      rw [show cwE (decide (GoodC n f)) 0 s = 7 by unfold cwE; rw [decide_eq_true hG, if_pos rfl, if_neg hw]] at hW
      rw [if_pos hG, show beE n 0 0 s = 7 from if_neg (fun h => hw h.2)] at hE
      exact ⟨7, rfl, fun h => absurd hG h, hW, hE⟩
    · rw [show cwE (decide (GoodC n f)) 0 s = 1 by unfold cwE; rw [decide_eq_false hG]; rfl] at hW
      rw [if_neg hG] at hE
      exact ⟨1, rfl, fun _ => rfl, hW, hE⟩
  exact ⟨e, he, hne, fun W hB => safe_err a n cap s e W (hW'.on2 hB) he, fun W hB => rSafe_err _ s e W (hE'.on2 hB) he⟩
theorem safes {w : World} {a : Option Addr} {n cap : Nat} {f : Nat → Nat → Int} (hT : Tab w) (h : Crs w w.heap.size (.slice a n cap) n f) (hl : n ≤ 1000) (s : Int) :
    ∃ r e : Int, LSay w 38 #[.slice a n cap, .int .i64 s] (.tuple #[.int .i64 r, .int .i64 e]) ∧ LSay w 39 #[.slice a n cap, .int .i64 s] (.tuple #[.int .i64 r, .int .i64 e]) := by
  by_cases hok : GoodC n f ∧ 0 ≤ s ∧ s < 4
  · obtain ⟨hG, h0, h4⟩ := hok
    obtain ⟨s, rfl⟩ := Int.eq_ofNat_of_zero_le h0
    obtain ⟨h1, h2, -⟩ := safe_good hT h hl hG s (by omega)
    exact ⟨_, _, h1, h2⟩
  · obtain ⟨e, -, -, h1, h2⟩ := safe_wrong h hl s hok
    exact ⟨0, e, h1, h2⟩
theorem leasts {w : World} {a : Option Addr} {n cap : Nat} {f : Nat → Nat → Int} (hT : Tab w) (h : Crs w w.heap.size (.slice a n cap) n f) (hl : n ≤ 1000) :
    ∃ r s e : Int, LSay w 40 #[.slice a n cap] (.tuple #[.int .i64 r, .int .i64 s, .int .i64 e]) ∧ LSay w 41 #[.slice a n cap] (.tuple #[.int .i64 r, .int .i64 s, .int .i64 e]) := by
  have hR := rcsay h hl
  by_cases hG : GoodC n f
  · rw [decide_eq_true hG] at hR
    have hg := fun s (hs : s < 4) => safe_good hT h hl hG s hs
    by_cases h0 : tiB f n 0 0 = true
    · have ht : ∀ s, tiB f n 0 s = true := fun s => (tiB_zero f n s 0).trans h0
      have e1 : ∀ s, saV f n s = saN f n s := fun s => if_pos (ht s)
      have e2 : ∀ s, saE f n s = 0 := fun s => if_pos (ht s)
      refine ⟨(stL (saV f n) 4).1, (stL (saV f n) 4).2, 0, fun W hB => least_ok a n cap (saV f n) W (saV_le f n) (fun k hk => ?_), fun W hB => rLeast_ok _ (saV f n) W (saV_le f n) (hR.later hB) (fun k hk => ?_)⟩
      · have := (hg k hk).1.on2 hB
        rwa [e2] at this
      · have := (hg k hk).2.2
        rw [if_pos (ht k), ← e1] at this
        exact fun V hV => this V (hB.trans (hV.mono hB.size))
    · have h0' : ∀ s, ¬ tiB f n 0 s = true := fun s h => h0 ((tiB_zero f n 0 s).trans h)
      refine ⟨0, 0, 8, fun W hB => least_err a n cap 8 W rfl ?_, fun W hB => rLeast_none _ W (hR.later hB) (fun k hk => ?_)⟩
      · have := (hg 0 (by omega)).1.on2 hB
        rwa [show saV f n 0 = 0 from if_neg (h0' 0), show saE f n 0 = 8 from if_neg (h0' 0)] at this
      · have := (hg k hk).2.2
        rw [if_neg (h0' k)] at this
        exact fun V hV => this V (hB.trans (hV.mono hB.size))
  · rw [decide_eq_false hG] at hR
    obtain ⟨e, he, h1, h2, -⟩ := safe_wrong h hl 0 (fun h => hG h.1)
    obtain rfl := h1 hG
    exact ⟨0, 0, 1, fun W hB => least_err a n cap 1 W rfl (h2.on2 hB), fun W hB => rLeast_bad _ W (hR.later hB)⟩
end Go.Proofs.YtplhbklfaokjbaaDoor
