/- Plain mathematics of loads: a pair is a place and a weight. -/
import Derived.Test.YtccjfmhbmieigaaDoorRoRN
namespace Go.Proofs.YtccjfmhbmieigaaDoor.Ro
open Go.Proofs.YtccjfmhbmieigaaDoor

def ldAt (ps : List (Int × Int)) (i : Nat) : Int × Int := ps.getD i (0, 0)
def OkL (s : Int) (p : Int × Int) : Prop := Btw p.1 0 s ∧ Ld p.2
instance (s : Int) (p : Int × Int) : Decidable (OkL s p) := by unfold OkL; infer_instance
def GoodL (s : Int) (ps : List (Int × Int)) : Prop := Btw s 1 100000 ∧ ps.length ≤ 20 ∧ ∀ k, k < ps.length → OkL s (ldAt ps k)
instance (s : Int) (ps : List (Int × Int)) : Decidable (GoodL s ps) := by unfold GoodL; infer_instance
theorem take_one' {α : Type} {ps : List α} {k : Nat} (d : α) (h : k < ps.length) : ps.take (k + 1) = ps.take k ++ [ps.getD k d] := by
  rw [List.take_succ_eq_append_getElem h]; simp [List.getD_eq_getElem?_getD, h]

/-- The shares, times the span, and all weights. -/
def fS (s : Int) (ps : List (Int × Int)) : Int := (ps.map fun p => p.2 * (s - p.1)).sum
def sS (ps : List (Int × Int)) : Int := (ps.map fun p => p.2 * p.1).sum
def aS (ps : List (Int × Int)) : Int := (ps.map fun p => p.2).sum
theorem fS_snoc (s : Int) (ps : List (Int × Int)) (p : Int × Int) : fS s (ps ++ [p]) = fS s ps + p.2 * (s - p.1) := by simp [fS]
theorem sS_snoc (ps : List (Int × Int)) (p : Int × Int) : sS (ps ++ [p]) = sS ps + p.2 * p.1 := by simp [sS]
theorem aS_snoc (ps : List (Int × Int)) (p : Int × Int) : aS (ps ++ [p]) = aS ps + p.2 := by simp [aS]
theorem fS_add (s : Int) : ∀ ps : List (Int × Int), fS s ps + sS ps = aS ps * s
  | [] => by simp [fS, sS, aS]
  | p :: ps => by
    have := fS_add s ps
    simp only [fS, sS, aS, List.map_cons, List.sum_cons] at *
    grind
theorem okL_bd {s : Int} {p : Int × Int} (hs : Btw s 1 100000) (h : OkL s p) : 0 ≤ p.2 * (s - p.1) ∧ p.2 * (s - p.1) ≤ 100000000000 ∧ 0 ≤ p.2 * p.1 ∧ p.2 * p.1 ≤ 100000000000 ∧ 0 ≤ p.2 ∧ p.2 ≤ 1000000 ∧ 0 ≤ s - p.1 ∧ s - p.1 ≤ 100000 ∧ 0 ≤ p.1 ∧ p.1 ≤ 100000 := by
  obtain ⟨⟨h1, h2⟩, h3, h4⟩ := h
  obtain ⟨s1, s2⟩ := hs
  exact ⟨Int.mul_nonneg h3 (by omega), Int.le_trans (Int.mul_le_mul h4 (show s - p.1 ≤ 100000 by omega) (by omega) (by omega)) (by omega), Int.mul_nonneg h3 h1, Int.le_trans (Int.mul_le_mul h4 (show p.1 ≤ 100000 by omega) h1 (by omega)) (by omega), h3, h4, by omega, by omega, h1, by omega⟩
theorem sums_bd {s : Int} (hs : Btw s 1 100000) : ∀ (ps : List (Int × Int)), (∀ p ∈ ps, OkL s p) → 0 ≤ fS s ps ∧ fS s ps ≤ ps.length * 100000000000 ∧ 0 ≤ sS ps ∧ sS ps ≤ ps.length * 100000000000 ∧ 0 ≤ aS ps ∧ aS ps ≤ ps.length * 1000000
  | [], _ => by simp [fS, sS, aS]
  | p :: ps, h => by
    have h1 := sums_bd hs ps (fun q hq => h q (List.mem_cons_of_mem _ hq))
    have h2 := okL_bd hs (h p List.mem_cons_self)
    simp only [fS, sS, aS, List.map_cons, List.sum_cons, List.length_cons] at *
    omega
theorem ldAt_mem {ps : List (Int × Int)} {k : Nat} (h : k < ps.length) : ldAt ps k ∈ ps := by
  unfold ldAt
  rw [List.getD_eq_getElem?_getD, List.getElem?_eq_getElem h]
  exact List.getElem_mem h
theorem mem_ldAt {ps : List (Int × Int)} {p : Int × Int} (h : p ∈ ps) : ∃ k, k < ps.length ∧ ldAt ps k = p := by
  obtain ⟨k, hk, rfl⟩ := List.getElem_of_mem h
  exact ⟨k, hk, by unfold ldAt; simp [List.getD_eq_getElem?_getD, hk]⟩
theorem goodL_all {s : Int} {ps : List (Int × Int)} (h : GoodL s ps) : ∀ p ∈ ps, OkL s p := fun p hp => by
  obtain ⟨k, hk, rfl⟩ := mem_ldAt hp
  exact h.2.2 k hk
theorem take_bd {s : Int} {ps : List (Int × Int)} (h : GoodL s ps) (k : Nat) : 0 ≤ fS s (ps.take k) ∧ fS s (ps.take k) ≤ 2000000000000 ∧ 0 ≤ sS (ps.take k) ∧ sS (ps.take k) ≤ 2000000000000 ∧ 0 ≤ aS (ps.take k) ∧ aS (ps.take k) ≤ 20000000 := by
  have := sums_bd h.1 (ps.take k) (fun p hp => goodL_all h p (List.mem_of_mem_take hp))
  have h2 := h.2.1
  have h3 : (ps.take k).length ≤ ps.length := by simp; omega
  omega
theorem all_bd {s : Int} {ps : List (Int × Int)} (h : GoodL s ps) : 0 ≤ fS s ps ∧ fS s ps ≤ 2000000000000 ∧ 0 ≤ sS ps ∧ sS ps ≤ 2000000000000 ∧ 0 ≤ aS ps ∧ aS ps ≤ 20000000 := by
  have := take_bd h ps.length
  rwa [List.take_length] at this
theorem goodL_nil {s : Int} : GoodL s [] ↔ Btw s 1 100000 := ⟨fun h => h.1, fun h => ⟨h, by simp, fun k hk => absurd hk (by simp)⟩⟩
end Go.Proofs.YtccjfmhbmieigaaDoor.Ro
