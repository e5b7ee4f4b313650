/- What links bear, as mathematics. -/
import Derived.Test.YteojmhfocdlnoaaDoorTrGur
namespace Go.Proofs.YteojmhfocdlnoaaDoor.Tr
open Go.Proofs.YteojmhfocdlnoaaDoor
open Go.RowKit

/-- A sum over the first numbers. -/
def sumN (f : Nat → Int) : Nat → Int
  | 0 => 0
  | n + 1 => sumN f n + f n
theorem sumN_congr {f g : Nat → Int} : ∀ n, (∀ i, i < n → f i = g i) → sumN f n = sumN g n
  | 0, _ => rfl
  | n + 1, h => by unfold sumN; rw [sumN_congr n (fun i hi => h i (by omega)), h n (by omega)]
theorem sumN_add (f g : Nat → Int) : ∀ n, sumN (fun i => f i + g i) n = sumN f n + sumN g n
  | 0 => rfl
  | n + 1 => by unfold sumN; rw [sumN_add f g n]; omega
theorem sumN_zero : ∀ n, sumN (fun _ => 0) n = 0
  | 0 => rfl
  | n + 1 => by unfold sumN; rw [sumN_zero n]; rfl
theorem sumN_one {a : Nat} (v : Int) : ∀ n, sumN (fun i => if i = a then v else 0) n = if a < n then v else 0
  | 0 => rfl
  | n + 1 => by
    unfold sumN
    rw [sumN_one v n]
    by_cases h : n = a
    · subst h; rw [if_neg (by omega), if_pos rfl, if_pos (by omega)]; omega
    · rw [if_neg h]
      by_cases h2 : a < n
      · rw [if_pos h2, if_pos (by omega)]; omega
      · rw [if_neg h2, if_neg (by omega)]; omega
theorem sumN_bd {f : Nat → Int} {c : Int} : ∀ n, (∀ i, i < n → 0 ≤ f i ∧ f i ≤ c) → 0 ≤ sumN f n ∧ sumN f n ≤ c * n
  | 0, _ => by simp [sumN]
  | n + 1, h => by
    unfold sumN
    have h1 := sumN_bd n (fun i hi => h i (by omega))
    have h2 := h n (by omega)
    have e : c * ((n + 1 : Nat) : Int) = c * n + c := by rw [Int.natCast_add]; rw [Int.mul_add]; simp
    rw [e]
    omega
/-- A sum over a list without repetitions. -/
theorem sum_list {m : Nat} (f : Nat → Int) : ∀ (L : List Nat), L.Nodup → (∀ x ∈ L, x < m) → (L.map f).sum = sumN (fun x => if x ∈ L then f x else 0) m
  | [], _, _ => by simp [sumN_zero]
  | a :: L, hn, hl => by
    obtain ⟨h1, h2⟩ := List.nodup_cons.1 hn
    rw [List.map_cons, List.sum_cons, sum_list f L h2 (fun x hx => hl x (List.mem_cons_of_mem _ hx))]
    have e : sumN (fun x => if x ∈ a :: L then f x else 0) m = sumN (fun x => (if x = a then f a else 0) + (if x ∈ L then f x else 0)) m := sumN_congr m (fun x _ => by
      by_cases hx : x = a
      · subst hx; simp [h1]
      · simp [hx])
    rw [e, sumN_add, sumN_one, if_pos (hl a (by simp))]
theorem up_len {m : Nat} {f : Nat → Int} {c : Int} (hf : ∀ i, i < m → 0 ≤ f i ∧ f i ≤ c) (hc : 0 ≤ c) {L : List Nat} (hn : L.Nodup) (hl : ∀ x ∈ L, x < m) : 0 ≤ (L.map f).sum ∧ (L.map f).sum ≤ c * m := by
  rw [sum_list f L hn hl]
  refine sumN_bd m (fun i hi => ?_)
  by_cases h : i ∈ L
  · rw [if_pos h]; exact hf i hi
  · rw [if_neg h]; exact ⟨Int.le_refl _, hc⟩
/-- The links from one up. -/
def upO (lf : Nat → Int) (m : Nat) (x : Int) : List Nat := upL lf (m + 1) x
section
variable {lf : Nat → Int} {m : Nat} (hv : ∀ k, k < m → lf k < k ∧ -1 ≤ lf k)
include hv
/-- Enough steps are enough. -/
theorem upL_fuel : ∀ (d : Nat) (x : Int), x < (m : Int) → x < (d : Int) → upL lf d x = upL lf (d + 1) x
  | 0, x, _, h => by rw [upL_end lf (by omega), upL_end lf (by omega)]
  | d + 1, x, hx, h => by
    by_cases h0 : x < 0
    · rw [upL_end lf h0, upL_end lf h0]
    · obtain ⟨k, rfl⟩ : ∃ k : Nat, x = (k : Int) := ⟨x.toNat, by omega⟩
      have := hv k (by omega)
      rw [upL_step, upL_step, upL_fuel d (lf k) (by omega) (by omega)]
theorem upL_any : ∀ (r d : Nat) (x : Int), x < (m : Int) → x < (d : Int) → upL lf d x = upL lf (d + r) x
  | 0, d, x, _, _ => rfl
  | r + 1, d, x, h1, h2 => by rw [upL_any r d x h1 h2, ← Nat.add_assoc]; exact upL_fuel hv (d + r) x h1 (by omega)
theorem upO_step {k : Nat} (hk : k < m) : upO lf m (k : Nat) = k :: upO lf m (lf k) := by
  unfold upO
  rw [upL_step]
  have := hv k hk
  rw [upL_any hv 1 m (lf k) (by omega) (by omega)]
theorem upO_parent : ∀ (n : Nat) (x : Int), x < (n : Int) → x < (m : Int) → ∀ k i : Nat, k ∈ upO lf m x → lf k = (i : Int) → i ∈ upO lf m x
  | 0, x, h, _, k, i, hk, _ => by unfold upO at hk; rw [upL_end lf (by omega)] at hk; cases hk
  | n + 1, x, h, hx, k, i, hk, hi => by
    by_cases h0 : x < 0
    · unfold upO at hk; rw [upL_end lf h0] at hk; cases hk
    · obtain ⟨y, rfl⟩ : ∃ y : Nat, x = (y : Int) := ⟨x.toNat, by omega⟩
      have hy := hv y (by omega)
      rw [upO_step hv (by omega)] at hk ⊢
      rcases List.mem_cons.1 hk with rfl | hk
      · refine List.mem_cons_of_mem _ ?_
        rw [hi, upO_step hv (by omega)]
        simp
      · exact List.mem_cons_of_mem _ (upO_parent n (lf y) (by omega) (by omega) k i hk hi)
theorem upO_child : ∀ (n : Nat) (x : Int), x < (n : Int) → x < (m : Int) → ∀ i : Nat, i ∈ upO lf m x → (i : Int) = x ∨ ∃ k, k ∈ upO lf m x ∧ lf k = (i : Int)
  | 0, x, h, _, i, hk => by unfold upO at hk; rw [upL_end lf (by omega)] at hk; cases hk
  | n + 1, x, h, hx, i, hk => by
    by_cases h0 : x < 0
    · unfold upO at hk; rw [upL_end lf h0] at hk; cases hk
    · obtain ⟨y, rfl⟩ : ∃ y : Nat, x = (y : Int) := ⟨x.toNat, by omega⟩
      have hy := hv y (by omega)
      rw [upO_step hv (by omega)] at hk ⊢
      rcases List.mem_cons.1 hk with rfl | hk
      · exact .inl rfl
      · rcases upO_child n (lf y) (by omega) (by omega) i hk with e | ⟨k, h1, h2⟩
        · exact .inr ⟨y, by simp, e.symm⟩
        · exact .inr ⟨k, List.mem_cons_of_mem _ h1, h2⟩
theorem upO_le {x : Int} (hx : x < (m : Int)) : ∀ k ∈ upO lf m x, (k : Int) ≤ x := (upL_sorted hv (m + 1) x hx).2
theorem upO_chain : ∀ (n : Nat) (x : Int), x < (n : Int) → x < (m : Int) → ∀ k k' : Nat, k ∈ upO lf m x → k' ∈ upO lf m x → k < k' → (k : Int) ≤ lf k'
  | 0, x, h, _, k, k', hk, _, _ => by unfold upO at hk; rw [upL_end lf (by omega)] at hk; cases hk
  | n + 1, x, h, hx, k, k', hk, hk', hlt => by
    by_cases h0 : x < 0
    · unfold upO at hk; rw [upL_end lf h0] at hk; cases hk
    · obtain ⟨y, rfl⟩ : ∃ y : Nat, x = (y : Int) := ⟨x.toNat, by omega⟩
      have hy := hv y (by omega)
      rw [upO_step hv (by omega)] at hk hk'
      rcases List.mem_cons.1 hk' with rfl | hk'
      · rcases List.mem_cons.1 hk with rfl | hk
        · omega
        · exact upO_le hv (by omega) k hk
      · rcases List.mem_cons.1 hk with rfl | hk
        · have := upO_le hv (by omega) k' hk'
          omega
        · exact upO_chain n (lf y) (by omega) (by omega) k k' hk hk' hlt
/-- Who hangs under a link. -/
theorem unL_mem : ∀ (d i : Nat), m - i ≤ d → i < m → ∀ x, x ∈ unL lf m d i ↔ x < m ∧ x ≠ i ∧ i ∈ upO lf m (x : Nat)
  | 0, i, h, hi, x => by omega
  | d + 1, i, h, hi, x => by
    unfold unL
    rw [List.mem_flatMap]
    constructor
    · rintro ⟨k, hk, hx⟩
      have hk := List.mem_range.1 hk
      unfold unF at hx
      by_cases hc : i < k ∧ lf k = (i : Int)
      · rw [if_pos hc] at hx
        have hkx : x < m ∧ k ∈ upO lf m (x : Nat) := by
          rcases List.mem_cons.1 hx with rfl | hx
          · exact ⟨hk, by rw [upO_step hv hk]; simp⟩
          · have := (unL_mem d k (by omega) hk x).1 hx
            exact ⟨this.1, this.2.2⟩
        have hle := upO_le hv (by omega) k hkx.2
        exact ⟨hkx.1, by omega, upO_parent hv m (x : Nat) (by omega) (by omega) k i hkx.2 hc.2⟩
      · rw [if_neg hc] at hx; cases hx
    · rintro ⟨h1, h2, h3⟩
      rcases upO_child hv m (x : Nat) (by omega) (by omega) i h3 with e | ⟨k, h4, h5⟩
      · omega
      · have hle := upO_le hv (by omega) k h4
        have hk := hv k (by omega)
        refine ⟨k, List.mem_range.2 (by omega), ?_⟩
        unfold unF
        rw [if_pos ⟨by omega, h5⟩]
        by_cases e : x = k
        · subst e; simp
        · exact List.mem_cons_of_mem _ ((unL_mem d k (by omega) (by omega) x).2 ⟨h1, e, h4⟩)
theorem unF_up {d i k x : Nat} (hd : m - i ≤ d + 1) (hk : k < m) (hx : x ∈ unF lf (unL lf m d) i k) : i < k ∧ lf k = (i : Int) ∧ x < m ∧ k ∈ upO lf m (x : Nat) := by
  unfold unF at hx
  by_cases hc : i < k ∧ lf k = (i : Int)
  · rw [if_pos hc] at hx
    rcases List.mem_cons.1 hx with rfl | hx
    · exact ⟨hc.1, hc.2, hk, by rw [upO_step hv hk]; simp⟩
    · have := (unL_mem hv d k (by omega) hk x).1 hx
      exact ⟨hc.1, hc.2, this.1, this.2.2⟩
  · rw [if_neg hc] at hx; cases hx
theorem unP_mem {d i x : Nat} (hd : m - i ≤ d + 1) : ∀ k, k ≤ m → x ∈ unP lf m d i k → ∃ j, j < k ∧ i < j ∧ lf j = (i : Int) ∧ j ∈ upO lf m (x : Nat)
  | 0, _, h => by simp [unP] at h
  | k + 1, hk, h => by
    rw [unP_succ] at h
    rcases List.mem_append.1 h with h | h
    · obtain ⟨j, h1, h2⟩ := unP_mem hd k (by omega) h
      exact ⟨j, by omega, h2⟩
    · obtain ⟨h1, h2, _, h4⟩ := unF_up hv hd (by omega) h
      exact ⟨k, by omega, h1, h2, h4⟩
theorem unL_nodup : ∀ (d i : Nat), m - i ≤ d → i < m → (unL lf m d i).Nodup
  | 0, i, h, hi => by omega
  | d + 1, i, h, hi => by
    have key : ∀ k, k ≤ m → (unP lf m d i k).Nodup := by
      intro k
      induction k with
      | zero => intro _; exact List.nodup_nil
      | succ k ihk =>
        intro hk
        rw [unP_succ, List.nodup_append]
        refine ⟨ihk (by omega), ?_, ?_⟩
        · unfold unF
          by_cases hc : i < k ∧ lf k = (i : Int)
          · rw [if_pos hc]
            refine List.nodup_cons.2 ⟨fun hm => ?_, unL_nodup d k (by omega) (by omega)⟩
            exact ((unL_mem hv d k (by omega) (by omega) k).1 hm).2.1 rfl
          · rw [if_neg hc]; exact List.nodup_nil
        · rintro x hx y hy rfl
          obtain ⟨j, h1, h2, h3, h4⟩ := unP_mem hv h k (by omega) hx
          obtain ⟨h5, h6, h7, h8⟩ := unF_up hv h (by omega) hy
          have := upO_chain hv m (x : Nat) (by omega) (by omega) j k h4 h8 h1
          omega
    exact key m (Nat.le_refl m)
end
end Go.Proofs.YteojmhfocdlnoaaDoor.Tr
