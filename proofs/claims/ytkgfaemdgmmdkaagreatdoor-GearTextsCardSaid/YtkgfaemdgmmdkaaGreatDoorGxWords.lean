/- A text cut into words: the reference's Words. -/
import Derived.Test.YtkgfaemdgmmdkaaGreatDoorGxDig
import Derived.Laws.AppendOwn
import Derived.Laws.AppendOwnNone
import Derived.Laws.OwnMore
import Derived.Deep.AppendLies
import Derived.Lib.SmallJoins
import Derived.OwnWalk
import Derived.Laws.Strings3
namespace Go.Proofs.YtkgfaemdgmmdkaaGreatDoor.Gx
open Go.Proofs.YtkgfaemdgmmdkaaGreatDoor
open Go.RowKit
attribute [local go_sem] After.cell After.frozen After.lt After.le After.ne After.ne' After.set_eq After.size_set After.lt_add

/-- The words that are ended by a mark among the bytes read, and what is read of the next one (turned round). -/
def cutW (mark : UInt8) : List UInt8 → List (List UInt8) × List UInt8
  | [] => ([], [])
  | c :: cs => if c = mark then ([] :: (cutW mark cs).1, (cutW mark cs).2) else
    match (cutW mark cs).1 with
    | [] => ([], c :: (cutW mark cs).2)
    | v :: vs => ((c :: v) :: vs, (cutW mark cs).2)
/-- The words of a text: one more than there are marks. -/
def wordsL (mark : UInt8) (s : List UInt8) : List (List UInt8) := (cutW mark s).1 ++ [(cutW mark s).2]
theorem cutW_snoc_mark (mark : UInt8) : ∀ s : List UInt8, cutW mark (s ++ [mark]) = ((cutW mark s).1 ++ [(cutW mark s).2], [])
  | [] => by simp [cutW]
  | c :: cs => by
    have ih := cutW_snoc_mark mark cs
    simp only [List.cons_append, cutW, ih]
    by_cases h : c = mark
    · simp [h]
    · simp only [h, if_false]
      cases hv : (cutW mark cs).1 with
      | nil => simp
      | cons v vs => simp
theorem cutW_snoc (mark d : UInt8) (hd : d ≠ mark) : ∀ s : List UInt8, cutW mark (s ++ [d]) = ((cutW mark s).1, (cutW mark s).2 ++ [d])
  | [] => by simp [cutW, hd]
  | c :: cs => by
    have ih := cutW_snoc mark d hd cs
    simp only [List.cons_append, cutW, ih]
    by_cases h : c = mark
    · simp [h]
    · simp only [h, if_false]
      cases hv : (cutW mark cs).1 with
      | nil => simp
      | cons v vs => simp
def wvs (l : List (List UInt8)) : List Value := l.map fun x => .string (tx x)
theorem strInfo : (Tryz.prog.info? 9).map (fun i => (i.zero, i.size, i.bytes)) = some (some (.string ByteArray.empty), 1, 16) := by kernel_rfl
theorem cutW_len (mark : UInt8) : ∀ s : List UInt8, (cutW mark s).1.length ≤ s.length
  | [] => by simp [cutW]
  | c :: cs => by
    have ih := cutW_len mark cs
    simp only [cutW]
    by_cases h : c = mark
    · simp [h]; omega
    · simp only [h, if_false]
      cases hv : (cutW mark cs).1 with
      | nil => simp
      | cons v vs => rw [hv] at ih; simp at *; omega
/-- The word that is being read is the text's own end. -/
theorem cutW_tail (mark : UInt8) (s : List UInt8) : ∃ p, s = p ++ (cutW mark s).2 ∧ p.length + (cutW mark s).2.length = s.length := by
  induction s with
  | nil => exact ⟨[], rfl, rfl⟩
  | cons c cs ih =>
    obtain ⟨p, h1, h2⟩ := ih
    by_cases h : c = mark
    · refine ⟨c :: p, ?_, ?_⟩
      · simp only [cutW, h, if_true]
        rw [List.cons_append, ← h1]
      · simp only [cutW, h, if_true, List.length_cons]; omega
    · cases hv : (cutW mark cs).1 with
      | nil =>
        have hp : p = [] ∨ p ≠ [] := by cases p <;> simp
        simp only [cutW, h, if_false, hv]
        have hall : cs = (cutW mark cs).2 := by
          have : ∀ t : List UInt8, (cutW mark t).1 = [] → (cutW mark t).2 = t := by
            intro t
            induction t with
            | nil => intro _; rfl
            | cons d ds ihd =>
              intro hh
              simp only [cutW] at hh ⊢
              by_cases h5 : d = mark
              · simp [h5] at hh
              · simp only [h5, if_false] at hh ⊢
                cases hw : (cutW mark ds).1 with
                | nil => rw [hw] at hh; simp [ihd hw]
                | cons v vs => rw [hw] at hh; simp at hh
          exact (this cs hv).symm
        exact ⟨[], by rw [List.nil_append, ← hall], by simp [← hall]⟩
      | cons v vs =>
        refine ⟨c :: p, ?_, ?_⟩
        · simp only [cutW, h, if_false, hv]
          rw [List.cons_append, ← h1]
        · simp only [cutW, h, if_false, hv, List.length_cons]; omega
end Go.Proofs.YtkgfaemdgmmdkaaGreatDoor.Gx
