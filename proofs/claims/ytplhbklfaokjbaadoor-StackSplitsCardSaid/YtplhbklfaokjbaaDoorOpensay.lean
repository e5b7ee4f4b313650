/- What Open, Stands and Falls answer of any stack, in both programs. -/
import Derived.Test.YtplhbklfaokjbaaDoorOpenp
namespace Go.Proofs.YtplhbklfaokjbaaDoor
open Go.RowKit

/-- A call that answers a list of its own and an error, in every later world. -/
def QSay (w : World) (F : FuncId) (args : Array Value) (L : List Nat) (e : Int) : Prop := ∀ W, Below w.heap.size w W → Calls Tryd.prog F args W fun r w' => ∃ v, r = .returned (.tuple #[v, .int .i64 e]) ∧ IRow w' W.heap.size v L ∧ Below W.heap.size W w'
theorem irow_nil (W : World) (B : Nat) : IRow W B (.slice none 0 0) [] := ⟨none, 0, rfl, fun h => by simp at h⟩
theorem WSay.on2 {w W : World} {v : Value} {p s e : Int} (hB : WSay w v p s e) (hW : Below w.heap.size w W) : WSay W v p s e := fun V hV => hB V (hW.trans (hV.mono hW.size))
theorem wsay {w : World} {v : Value} {n : Nat} {f : Nat → Nat → Int} (h : Crs w w.heap.size v n f) (hl : n ≤ 1000) (p s : Int) : WSay w v p s (cwE (decide (GoodC n f)) p s) := fun W hW => checkWind_any v p s _ W ((csay h hl).later hW)

theorem opens {w : World} {a : Option Addr} {n cap : Nat} {f : Nat → Nat → Int} (hT : Tab w) (h : Crs w w.heap.size (.slice a n cap) n f) (hl : n ≤ 1000) (p s : Int) :
    ∃ (L : List Nat) (e : Int) (z : Bool) (e2 : Int) (k e3 : Int), L.length ≤ 60 ∧ QSay w 31 #[.slice a n cap, .int .i64 p, .int .i64 s] L e ∧ QSay w 32 #[.slice a n cap, .int .i64 p, .int .i64 s] L e ∧
      LSay w 34 #[.slice a n cap, .int .i64 p, .int .i64 s] (.tuple #[.bool z, .int .i64 e2]) ∧ LSay w 35 #[.slice a n cap, .int .i64 p, .int .i64 s] (.tuple #[.bool z, .int .i64 e2]) ∧
      LSay w 36 #[.slice a n cap, .int .i64 p, .int .i64 s] (.tuple #[.int .i64 k, .int .i64 e3]) ∧ LSay w 37 #[.slice a n cap, .int .i64 p, .int .i64 s] (.tuple #[.int .i64 k, .int .i64 e3]) := by
  have hW := wsay h hl p s
  have hE := esay h hl 0 p s
  by_cases hok : GoodC n f ∧ WindOk p s
  · obtain ⟨hG, hw⟩ := hok
    obtain ⟨s, rfl⟩ := Int.eq_ofNat_of_zero_le hw.2.1
    have h60 := hG.2.1
    have h1 := hG.1
    rw [show cwE (decide (GoodC n f)) p (s : Nat) = 0 by unfold cwE; rw [decide_eq_true hG, if_pos rfl, if_pos hw]] at hW
    rw [if_pos hG, show beE n 0 p (s : Nat) = 0 from if_pos ⟨by unfold Btw; omega, hw⟩] at hE
    obtain ⟨-, -, -, -, b, off, rfl, hb, -⟩ := winds_in h hG (k := 0) (by omega) hw
    have hh := h
    obtain ⟨a', cap', e1, hc⟩ := hh
    cases e1
    obtain ⟨b', off', e2, -, hc⟩ := hc hG.1
    cases e2
    have hRC : ∀ (k : Nat) W, k < n → Below w.heap.size w W → Calls Tryd.prog 67 #[.slice (some ⟨b, off, none⟩) n cap, .int .i64 (k : Nat), .int .i64 p, .int .i64 (s : Nat)] W fun e w' => e = .returned (.bool (clB (bI f n k) p s)) ∧ Below W.heap.size W w' := fun k W hk hB => by
      obtain ⟨-, -, -, hR, b2, off2, e3, -, hK⟩ := winds_in h hG hk hw
      cases e3
      exact rclosed_any b off cap n k p s _ W hk h60 (Nat.lt_of_lt_of_le hb hB.size) hw.1.1 hw.1.2 (inB_bI hG hk) (inO_bI hG hk) (hK.on2 hB) (hR.on2 hB)
    have hRH : ∀ (k : Nat) W, k < n → Below w.heap.size w W → Calls Tryd.prog 69 #[.slice (some ⟨b, off, none⟩) n cap, .int .i64 (k : Nat), .int .i64 p, .int .i64 (s : Nat)] W fun e w' => e = .returned (.bool (hoB (bI f n k) p s)) ∧ Below W.heap.size W w' := fun k W hk hB => by
      obtain ⟨-, -, -, hR, b2, off2, e3, -, hK⟩ := winds_in h hG hk hw
      cases e3
      exact rholds_any b off cap n k p s _ W hk h60 (Nat.lt_of_lt_of_le hb hB.size) hw.1.1 hw.1.2 (inB_bI hG hk) (inO_bI hG hk) (hK.on2 hB) (hR.on2 hB)
    have hF : LSay w 36 #[.slice (some ⟨b, off, none⟩) n cap, .int .i64 p, .int .i64 (s : Nat)] (.tuple #[.int .i64 (faK (topF f n p s)), .int .i64 (faE (topF f n p s))]) := fun W hB => falls_ok b off cap n f p s W (Nat.lt_of_lt_of_le hb hB.size) (hc.on hb hB) hG (hT.on hB) hw (hW.on2 hB)
    have hGs : ∀ W, Below w.heap.size w W → GSay W (.slice (some ⟨b, off, none⟩) n cap) p (s : Nat) (faR (topF f n p s)) := fun W hB V hV => rfalls_any _ n cap f p s V h60 (fun k U hk hU => hRH k U hk ((hB.trans (hV.mono hB.size)).trans (hU.mono (hB.trans (hV.mono hB.size)).size)))
    have hst : ∀ o : Option Nat, (faE o == 8) = o.isNone ∧ (if faE o == 8 then 0 else faE o) = 0 := fun o => by cases o <;> simp [faE]
    refine ⟨opL f n p s n, 0, (topF f n p s).isNone, 0, faK (topF f n p s), faE (topF f n p s), Nat.le_trans (opL_le ..) h60, fun W hB => ?_, fun W hB => ?_, fun W hB => ?_, fun W hB => ?_, hF, fun W hB => ?_⟩
    · exact open_ok b off cap n f p s W (Nat.lt_of_lt_of_le hb hB.size) (hc.on hb hB) hG (hT.on hB) hw (hW.on2 hB)
    · refine (rOpen_ok _ n cap f p s W h60 (hE.on2 hB) (fun k U hk hU => hRC k U hk (hB.trans (hU.mono hB.size)))).mono ?_
      rintro e w' ⟨v, rfl, h2, h3⟩
      exact ⟨v, rfl, irow_of h2, h3⟩
    · have := stands_by (.slice (some ⟨b, off, none⟩) n cap) p (s : Nat) _ _ W (fun V hV => hF V (hB.trans (hV.mono hB.size)))
      rwa [(hst _).1, ← (hst _).1, (hst _).2, (hst _).1] at this
    · exact rStands_ok _ p (s : Nat) _ W (hE.on2 hB) (hGs W hB)
    · exact rFalls_ok _ p (s : Nat) _ W (hE.on2 hB) (hGs W hB)
  · obtain ⟨e, he, h8, hW', hE'⟩ : ∃ e : Int, (e == 0) = false ∧ (e == 8) = false ∧ WSay w (.slice a n cap) p s e ∧ ESay w (.slice a n cap) 0 p s e := by
      by_cases hG : GoodC n f
      · have hw : ¬ WindOk p s := fun h => hok ⟨hG, h⟩
        rw [show cwE (decide (GoodC n f)) p s = 7 by unfold cwE; rw [decide_eq_true hG, if_pos rfl, if_neg hw]] at hW
        rw [if_pos hG, show beE n 0 p s = 7 from if_neg (fun h => hw h.2)] at hE
        exact ⟨7, rfl, rfl, hW, hE⟩
      · rw [show cwE (decide (GoodC n f)) p s = 1 by unfold cwE; rw [decide_eq_false hG]; rfl] at hW
        rw [if_neg hG] at hE
        exact ⟨1, rfl, rfl, hW, hE⟩
    have hF : LSay w 36 #[.slice a n cap, .int .i64 p, .int .i64 s] (.tuple #[.int .i64 0, .int .i64 e]) := fun W hB => falls_err a n cap p s e W (hW'.on2 hB) he
    refine ⟨[], e, false, e, 0, e, by simp, fun W hB => ?_, fun W hB => ?_, fun W hB => ?_, fun W hB => rStands_err _ p s e W (hE'.on2 hB) he, hF, fun W hB => rFalls_err _ p s e W (hE'.on2 hB) he⟩
    · exact (open_err a n cap p s e W (hW'.on2 hB) he).mono fun r w' ⟨h1, h2⟩ => ⟨_, h1, irow_nil _ _, h2⟩
    · exact (rOpen_err _ p s e W (hE'.on2 hB) he).mono fun r w' ⟨h1, h2⟩ => ⟨_, h1, irow_nil _ _, h2⟩
    · have := stands_by (.slice a n cap) p s _ _ W (fun V hV => hF V (hB.trans (hV.mono hB.size)))
      rw [h8] at this
      simpa using this
end Go.Proofs.YtplhbklfaokjbaaDoor
