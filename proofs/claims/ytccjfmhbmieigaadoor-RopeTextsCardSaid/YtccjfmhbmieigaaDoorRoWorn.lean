/- A rope with its uses: valid, check. -/
import Derived.Test.YtccjfmhbmieigaaDoorRoUsesr
namespace Go.Proofs.YtccjfmhbmieigaaDoor.Ro
open Go.Proofs.YtccjfmhbmieigaaDoor
open Go.RowKit
attribute [local go_sem] After.cell After.frozen After.lt After.le After.ne After.ne' After.set_eq After.size_set After.lt_add

/-- The slice value v holds the uses ps in the world W, in a block below B; what room it has. -/
def Prc (W : World) (B : Nat) (v : Value) (ps : List (Int × Int)) : Prop :=
  (v = .slice none 0 0 ∧ ps = []) ∨ (∃ p cap, v = .slice (some p) 0 cap ∧ cap ≤ 9223372036854775807 ∧ ps = []) ∨
  ∃ b off cap, v = .slice (some ⟨b, off, none⟩) ps.length cap ∧ 0 < ps.length ∧ ps.length ≤ cap ∧ cap ≤ 9223372036854775807 ∧ b < B ∧ PrCells W b off ps
theorem prc_on {v : Value} {ps : List (Int × Int)} {w W : World} (h : Prc w w.heap.size v ps) (hW : Below w.heap.size w W) : Prc W W.heap.size v ps := by
  rcases h with h | h | ⟨b, off, cap, e, h0, h1, h2, hb, hc⟩
  · exact .inl h
  · exact .inr (.inl h)
  · exact .inr (.inr ⟨b, off, cap, e, h0, h1, h2, Nat.lt_of_lt_of_le hb hW.size, prCells_on hb hc hW⟩)
theorem prc_slice {W : World} {B : Nat} {v : Value} {ps : List (Int × Int)} (h : Prc W B v ps) : ∃ a cap, v = .slice a ps.length cap := by
  rcases h with ⟨rfl, rfl⟩ | ⟨p, cap, rfl, _, rfl⟩ | ⟨b, off, cap, rfl, _⟩
  · exact ⟨none, 0, rfl⟩
  · exact ⟨_, cap, rfl⟩
  · exact ⟨_, cap, rfl⟩
theorem validUses_v (v : Value) (ps : List (Int × Int)) (w : World) (h : Prc w w.heap.size v ps) (hl : ps.length ≤ 1000) (g : Bool) (hg : decide (GoodU ps) = g) :
    Calls Tryd.prog 35 #[v] w fun e w' => e = .returned (.bool g) ∧ Below w.heap.size w w' := by
  subst hg
  have e : decide (GoodU []) = true := by decide
  rcases h with ⟨rfl, rfl⟩ | ⟨p, cap, rfl, _, rfl⟩ | ⟨b, off, cap, rfl, h0, h1, h2, hb, hc⟩
  · rw [e]; exact validUses_empty none 0 w
  · rw [e]; exact validUses_empty _ cap w
  · exact validUses_row b off cap ps w hb hl h1 h2 hc
theorem rvalidUses_v (v : Value) (ps : List (Int × Int)) (w : World) (h : Prc w w.heap.size v ps) (hl : ps.length ≤ 1000) (g : Bool) (hg : decide (GoodU ps) = g) :
    Calls Tryd.prog 17 #[v] w fun e w' => e = .returned (.bool g) ∧ Below w.heap.size w w' := by
  subst hg
  have e : decide (GoodU []) = true := by decide
  rcases h with ⟨rfl, rfl⟩ | ⟨p, cap, rfl, _, rfl⟩ | ⟨b, off, cap, rfl, h0, h1, h2, hb, hc⟩
  · rw [e]; exact rvalidUses_empty none 0 w
  · rw [e]; exact rvalidUses_empty _ cap w
  · exact rvalidUses_row b off cap ps w hb hl hc

/-- A valid rope with valid uses. -/
def GoodW (s d l : Int) (ps : List (Int × Int)) : Prop := GoodR s d l ∧ GoodU ps
instance (s d l : Int) (ps : List (Int × Int)) : Decidable (GoodW s d l ps) := by unfold GoodW; infer_instance

def erN (s d l : Int) (ps : List (Int × Int)) (day n : Int) : Int := if GoodW s d l ps then if Dy day ∧ Ld n then 0 else 7 else 1
end Go.Proofs.YtccjfmhbmieigaaDoor.Ro
