/- The reference's Parse. -/
import Derived.Test.YtldopcneellfbaaGreatDoorParsem
import Derived.Test.YtldopcneellfbaaGreatDoorWordsr
import Derived.Deep.RegionHeld3
namespace Go.Proofs.YtldopcneellfbaaGreatDoor
open Go.RowKit
attribute [local go_sem] After.cell After.frozen After.lt After.le After.ne After.ne' After.set_eq After.size_set After.lt_add tx_size tx_toList

/-- What a Parse of at most 65536 bytes answers. -/
def PAns (w' : World) (B : Nat) (ls : List (List UInt8)) (x : Ending) : Prop :=
  (∃ k f v, Whole ls k f ∧ x = .returned (.tuple #[v, .int .i64 0, .int .i64 0]) ∧ w'.ownsRow B 40 3 v k (mcs k f)) ∨
  (∃ (k : Nat) (f : Nat → Nat → Int), Stops ls k f ∧ x = .returned (.tuple #[.slice none 0 0, .int .i64 k, .int .i64 2]))
theorem wordsL_le (mark : UInt8) (s : List UInt8) : ∀ x ∈ wordsL mark s, x.length ≤ s.length := by
  have key : ∀ s : List UInt8, (∀ x ∈ (cutW mark s).1, x.length ≤ s.length) ∧ (cutW mark s).2.length ≤ s.length := by
    intro s
    induction s with
    | nil => simp [cutW]
    | cons c cs ih =>
      simp only [cutW]
      by_cases h : c = mark
      · simp only [h, if_true, List.length_cons]
        exact ⟨fun x hx => by
          rcases List.mem_cons.1 hx with rfl | hx
          · simp
          · have := ih.1 x hx; omega, by omega⟩
      · simp only [h, if_false]
        cases hv : (cutW mark cs).1 with
        | nil => simp; omega
        | cons v vs =>
          rw [hv] at ih
          refine ⟨fun x hx => ?_, by simp; omega⟩
          rcases List.mem_cons.1 hx with rfl | hx
          · have := ih.1 v (by simp); simp; omega
          · have := ih.1 x (by simp [hx]); simp; omega
  intro x hx
  unfold wordsL at hx
  rcases List.mem_append.1 hx with hx | hx
  · exact (key s).1 x hx
  · rw [List.mem_singleton.1 hx]; exact (key s).2
theorem wordsL_pos (mark : UInt8) (s : List UInt8) : 1 ≤ (wordsL mark s).length := by simp [wordsL]
theorem noLine_num {ls : List (List UInt8)} {k : Nat} {f : Nat → Nat → Int} {t : List UInt8} (ht : ls[k]? = some t) (hb : ∃ x ∈ wordsL 32 t, ¬ NumOk x) : NoLine ls k f := by
  intro t' ht' h e n hw hf
  rw [ht] at ht'
  cases ht'
  obtain ⟨x, hx, hn⟩ := hb
  rw [hw] at hx
  obtain ⟨h1, h2, h3⟩ := in18_of hf
  unfold threeW at hx
  simp only [List.mem_cons, List.not_mem_nil, or_false] at hx
  rcases hx with rfl | rfl | rfl
  · exact hn ⟨h, h1, rfl⟩
  · exact hn ⟨e, h2, rfl⟩
  · exact hn ⟨n, h3, rfl⟩
theorem noLine_len {ls : List (List UInt8)} {k : Nat} {f : Nat → Nat → Int} {t : List UInt8} (ht : ls[k]? = some t) (hb : (wordsL 32 t).length ≠ 3) : NoLine ls k f := by
  intro t' ht' h e n hw hf
  rw [ht] at ht'
  cases ht'
  rw [hw] at hb
  exact hb rfl
theorem noLine_fol {ls : List (List UInt8)} {k : Nat} {f : Nat → Nat → Int} {t : List UInt8} {h e n : Int} (ht : ls[k]? = some t) (hw : wordsL 32 t = threeW h e n) (hi : In18 h ∧ In18 e ∧ In18 n) (hb : ¬ FolM k (f (k - 1) 0) h e n) : NoLine ls k f := by
  intro t' ht' h' e' n' hw' hf
  rw [ht] at ht'
  cases ht'
  rw [hw] at hw'
  unfold threeW at hw'
  simp only [List.cons.injEq, and_true] at hw'
  obtain ⟨i1, i2, i3⟩ := in18_of hf
  obtain rfl := itoa_inj hi.1 hw'.1 i1
  obtain rfl := itoa_inj hi.2.1 hw'.2.1 i2
  obtain rfl := itoa_inj hi.2.2 hw'.2.2 i3
  exact hb hf
theorem reads_three {ws : List (List UInt8)} {ns : List Int} (h : Reads ws ns) (h3 : ns.length = 3) : ∃ a b c, ns = [a, b, c] ∧ ws = threeW a b c ∧ In18 a ∧ In18 b ∧ In18 c := by
  obtain ⟨hl, hr⟩ := h
  match ns, h3 with
  | [a, b, c], _ =>
    refine ⟨a, b, c, rfl, ?_, (hr 0 a rfl).1, (hr 1 b rfl).1, (hr 2 c rfl).1⟩
    have w0 := (hr 0 a rfl).2
    have w1 := (hr 1 b rfl).2
    have w2 := (hr 2 c rfl).2
    match ws, hl with
    | [x, y, z], _ =>
      simp at w0 w1 w2
      rw [w0, w1, w2]
      rfl
theorem rvalid_put {W : World} {B : Nat} {v : Value} {k : Nat} {f : Nat → Nat → Int} {h e n : Int} (ho : W.ownsRow B 40 3 v (k + 1) (mcs (k + 1) (putM f k h e n))) (hk : k ≤ 40) (hg : ∀ i, i < k → OkM f i) :
    Calls Tryz.prog 16 #[v] W fun x w' => x = .returned (.bool (decide (FolM k (f (k - 1) 0) h e n))) ∧ Below W.heap.size W w' := by
  obtain ⟨g, cap, rfl, _, _, _, hf⟩ := mkOwn_of ho (by omega)
  have hd : decide (FolM k (f (k - 1) 0) h e n) = decide (GoodM (k + 1) (putM f k h e n)) := decide_eq_decide.2 (putM_good h e n hg).symm
  rw [hd]
  exact rvalid_any g 0 cap (k + 1) _ W hf.lt (by omega) hf.mk'

set_option maxRecDepth 100000 in
set_option maxHeartbeats 2000000 in
theorem rparse_long (s : List UInt8) (w : World) (hs : 65536 < s.length) :
    Calls Tryz.prog 6 #[.string (tx s)] w fun e w' => e = .returned (.tuple #[.slice none 0 0, .int .i64 0, .int .i64 3]) ∧ Below w.heap.size w w' := by
  have hs' : (65536 : Int) < (s.length : Int) := by omega
  go_enter Tryz.func6, Tryz.ntmps6
  go_wp2
  go_returns
  exact ⟨rfl, by (repeat' (first | (with_reducible exact Below.refl _ _) | (with_reducible assumption) | (with_reducible refine Below.alloc ?_ ?_ _) | (with_reducible refine Below.drew ?_) | (with_reducible refine below_drewN ?_ _) | (with_reducible refine Below.setCell ?_ ?_ _) | (with_reducible refine below_after ?_ ?_ _) | (with_reducible refine below_set ?_) | (with_reducible refine After.size_le _ ?_) | (with_reducible refine size_alloc_le ?_) | (with_reducible refine size_set_le ?_) | (with_reducible refine size_drewN_le ?_) | go_size))⟩
end Go.Proofs.YtldopcneellfbaaGreatDoor
