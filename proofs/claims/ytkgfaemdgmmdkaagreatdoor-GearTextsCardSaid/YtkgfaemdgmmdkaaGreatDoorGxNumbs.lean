/- The reference's Numbers and Listed: their contracts. -/
import Derived.Test.YtkgfaemdgmmdkaaGreatDoorGxNumb
namespace Go.Proofs.YtkgfaemdgmmdkaaGreatDoor.Gx
open Go.Proofs.YtkgfaemdgmmdkaaGreatDoor
open Go.RowKit
attribute [local go_sem] After.cell After.frozen After.lt After.le After.ne After.ne' After.set_eq After.size_set After.lt_add tx_size tx_toList

theorem after_of' {W W' : World} (h : Below W.heap.size W W') : ∃ y : After W, W' = y.w := ⟨⟨W', h⟩, rfl⟩
/-- A list of texts in memory. -/
def TRow (W : World) (v : Value) (ws : List (List UInt8)) : Prop := ∃ a cap, v = .slice a ws.length cap ∧ (0 < ws.length → ∃ g, a = some ⟨g, 0, none⟩ ∧ g < W.heap.size ∧ ∀ (i : Nat) (x : List UInt8), ws[i]? = some x → W.cell? ⟨g, i, none⟩ = some (.string (tx x)))
theorem trow_of {W : World} {B : Nat} {v : Value} {ws : List (List UInt8)} (h : W.ownsRow B 9 1 v ws.length (wvs ws)) : TRow W v ws := by
  by_cases h0 : ws.length = 0
  · have h' := h
    rw [h0] at h'
    rcases Go.Joins.ownsRow_forms h' with ⟨rfl, _⟩ | ⟨g, c, rfl⟩
    · exact ⟨_, _, by rw [h0], fun h => by omega⟩
    · exact ⟨_, _, by rw [h0], fun h => by omega⟩
  · obtain ⟨g, c, rfl⟩ := Go.Joins.ownsRow_form h (by omega)
    refine ⟨_, c, rfl, fun _ => ⟨g, rfl, (h.lt g rfl).2, fun i x hx => ?_⟩⟩
    have hi : i < ws.length := (List.getElem?_eq_some_iff.1 hx).1
    rw [h.cellAt _ (by omega)]
    simp [wvs, hx]
theorem TRow.on {W V : World} {v : Value} {ws : List (List UInt8)} (h : TRow W v ws) (hV : Below W.heap.size W V) : TRow V v ws := by
  obtain ⟨a, cap, rfl, h⟩ := h
  refine ⟨a, cap, rfl, fun h0 => ?_⟩
  obtain ⟨g, rfl, h1, h2⟩ := h h0
  exact ⟨g, rfl, Nat.lt_of_lt_of_le h1 hV.size, fun i x hx => (hV.cell (p := ⟨g, i, none⟩) h1).trans (h2 i x hx)⟩
def nvs (l : List Int) : List Value := l.map fun x => .int .i64 x
theorem nInfo : (Tryz.prog.info? 3).map (fun i => (i.zero, i.size, i.bytes)) = some (some (.int .i64 0), 1, 8) := by kernel_rfl
/-- The numbers of the words. -/
def Reads (ws : List (List UInt8)) (ns : List Int) : Prop := ns.length = ws.length ∧ ∀ (i : Nat) (n : Int), ns[i]? = some n → In18 n ∧ ws[i]? = some (Lib.itoa n)
def NsAns (w' : World) (B : Nat) (ws : List (List UInt8)) (e : Ending) : Prop :=
  (∃ ns v, Reads ws ns ∧ e = .returned (.tuple #[v, .bool true]) ∧ w'.ownsRow B 3 1 v ns.length (nvs ns)) ∨ ((∃ x ∈ ws, ¬ NumOk x) ∧ e = .returned (.tuple #[.slice none 0 0, .bool false]))

/-! ### Listed -/
/-- Numbers, each with a blank before it. -/
def listL (l : List Int) : List UInt8 := l.flatMap fun n => 32 :: Lib.itoa n
theorem listL_snoc (l : List Int) (n : Int) : listL (l ++ [n]) = listL l ++ (32 :: Lib.itoa n) := by simp [listL]
theorem itoa_len {n : Int} (h0 : -9223372036854775808 ≤ n) (h1 : n ≤ 9223372036854775807) : (Lib.itoa n).length ≤ 20 := by
  unfold Lib.itoa
  split
  · have := dec_len (N := n.natAbs) (by omega)
    simp; omega
  · have := dec_len (N := n.toNat) (by omega)
    omega
end Go.Proofs.YtkgfaemdgmmdkaaGreatDoor.Gx
