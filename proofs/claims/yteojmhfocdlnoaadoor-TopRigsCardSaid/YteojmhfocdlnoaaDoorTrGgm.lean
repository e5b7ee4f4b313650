/- P7.3 as mathematics: no loads that may hang have a greater sum than the shares. Until, Greatest and Most of the reference; Most of the program in all cases. GearBears: the law's walk. -/
import Derived.Test.YteojmhfocdlnoaaDoorTrGbs
import Derived.Test.YteojmhfocdlnoaaDoorTrGut
import Derived.Test.YteojmhfocdlnoaaDoorTrGsr
namespace Go.Proofs.YteojmhfocdlnoaaDoor.Tr
open Go.Proofs.YteojmhfocdlnoaaDoor
open Go.RowKit
attribute [local go_sem] After.cell After.frozen After.lt After.le After.ne After.ne' After.set_eq After.size_set After.lt_add tx_size tx_toList

theorem after_og3 {W W' : World} (h : Below W.heap.size W W') : ∃ y : After W, W' = y.w := ⟨⟨W', h⟩, rfl⟩
def zrJ (c : Int) (n : Nat) : Nat := if c = 0 then n else 0
theorem zrJ_le (c : Int) (n : Nat) : zrJ c n ≤ n := by unfold zrJ; split <;> omega
theorem BoA.val {b : Bool} {m n : Nat} {lf lo : Nat → Int} {c : Int} {W : World} {e : Ending} (h : BoA b m n lf lo c W e) :
    ∃ a' c', e = .returned (.tuple #[.slice a' (zrJ c m) c', .int .i64 c]) ∧ GAt W a' (zrJ c m) (boN lf m (owN lo (thN (enB m lf) m) n)) ∧ (c = 0 → b = true ∧ n = (thN (enB m lf) m).length ∧ LdOk n lo) := by
  rcases h with ⟨h, rfl⟩ | ⟨rfl, hb, hn, hl, a', c', rfl, h⟩
  · have e : zrJ c m = 0 := by unfold zrJ; rw [if_neg h]
    rw [e]
    exact ⟨none, 0, rfl, fun k hk => by omega, fun q => absurd q h⟩
  · exact ⟨a', c', rfl, h, fun _ => ⟨hb, hn, hl⟩⟩
/-- Does a link among the first t hang from one? -/
def hgB (lf : Nat → Int) (i : Nat) : Nat → Bool
  | 0 => false
  | t + 1 => hgB lf i t || decide (lf t = (i : Int))
theorem hgB_of {lf : Nat → Int} {i : Nat} : ∀ t, hgB lf i t = true → ∃ k, k < t ∧ lf k = (i : Int)
  | 0, h => by cases h
  | t + 1, h => by
    unfold hgB at h
    simp only [Bool.or_eq_true, decide_eq_true_eq] at h
    rcases h with h | h
    · obtain ⟨k, h1, h2⟩ := hgB_of t h
      exact ⟨k, by omega, h2⟩
    · exact ⟨t, by omega, h⟩
def chS (lf bo : Nat → Int) (i : Nat) (t : Nat) : Int := sumN (fun k => if lf k = (i : Int) then bo k else 0) t
theorem chS_bd {lf bo : Nat → Int} {m : Nat} {c : Int} (h : ∀ k, k < m → 0 ≤ bo k ∧ bo k ≤ c) (hc : 0 ≤ c) (i : Nat) {t : Nat} (ht : t ≤ m) : 0 ≤ chS lf bo i t ∧ chS lf bo i t ≤ c * t := sumN_bd t (fun k hk => by
  by_cases e : lf k = (i : Int)
  · rw [if_pos e]; exact h k (by omega)
  · rw [if_neg e]; exact ⟨Int.le_refl _, hc⟩)
end Go.Proofs.YteojmhfocdlnoaaDoor.Tr
namespace Go.Proofs.YteojmhfocdlnoaaDoor.Tr
open Go.Proofs.YteojmhfocdlnoaaDoor
open Go.RowKit
attribute [local go_sem] After.cell After.frozen After.lt After.le After.ne After.ne' After.set_eq After.size_set After.lt_add tx_size tx_toList

/-- The greatest load that a link can bear by what hangs from it. -/
def gtN (ld lf : Nat → Int) (m : Nat) : Nat → Nat → Int
  | 0, i => ld i
  | d + 1, i => if hgB lf i m = true ∧ chS lf (gtN ld lf m d) i m < ld i then chS lf (gtN ld lf m d) i m else ld i
theorem gtN_bd {ld lf : Nat → Int} {m : Nat} (h : LdOk m ld) : ∀ d i, i < m → 0 ≤ gtN ld lf m d i ∧ gtN ld lf m d i ≤ 1000000
  | 0, i, hi => h i hi
  | d + 1, i, hi => by
    have h1 := h i hi
    have h2 := (chS_bd (lf := lf) (bo := gtN ld lf m d) (c := 1000000) (fun k hk => gtN_bd h d k hk) (by omega) i (Nat.le_refl m)).1
    unfold gtN
    split <;> omega
theorem hgB_low {lf : Nat → Int} {m i : Nat} (hv : ∀ k, k < m → lf k < k ∧ -1 ≤ lf k) : ∀ t, t ≤ i + 1 → t ≤ m → hgB lf i t = false
  | 0, _, _ => rfl
  | t + 1, h, h2 => by
    have := hv t (by omega)
    unfold hgB
    rw [hgB_low hv t (by omega) (by omega), decide_eq_false (by omega)]
    rfl
theorem chS_low {lf bo : Nat → Int} {m i : Nat} (hv : ∀ k, k < m → lf k < k ∧ -1 ≤ lf k) : ∀ t, t ≤ i + 1 → t ≤ m → chS lf bo i t = 0
  | 0, _, _ => rfl
  | t + 1, h, h2 => by
    have h3 := hv t (by omega)
    have h4 := chS_low (bo := bo) hv t (by omega) (by omega) (i := i)
    show chS lf bo i t + (if lf t = (i : Int) then bo t else 0) = 0
    rw [h4, if_neg (by omega)]
    rfl
section
variable (a : Option Addr) (n cap : Nat) (gm : Nat → List UInt8) (gl gd : Nat → Int) (gb : Nat → List UInt8) (al : Option Addr) (m capl : Nat) (lm : Nat → List UInt8) (lf : Nat → Int) (hn : n ≤ 1000) (hm : m ≤ 1000) (hb : (vgB n gm gl gd gb && vrB n m gm lm lf) = true)
include hn hm hb
end
section
variable (a : Option Addr) (n cap : Nat) (gm : Nat → List UInt8) (gl gd : Nat → Int) (gb : Nat → List UInt8) (al : Option Addr) (m capl : Nat) (lm : Nat → List UInt8) (lf : Nat → Int) (w : World) (hA : ItAt w a n gm gl gd gb) (hL : LkAt w al m lm lf) (hn : n ≤ 1000) (hm : m ≤ 1000) (hcap : m ≤ capl) (h1 : Sht n gm) (h2 : Sht n gb) (h3 : Sht m lm)
include hA hL hn hm hcap h1 h2 h3
end
end Go.Proofs.YteojmhfocdlnoaaDoor.Tr
namespace Go.Proofs.YteojmhfocdlnoaaDoor.Tr
open Go.Proofs.YteojmhfocdlnoaaDoor
open Go.RowKit

theorem mnU_att (g : Nat → Int) : ∀ (L : List Nat) (x : Int), mnU g x L = x ∨ ∃ i, i ∈ L ∧ mnU g x L = g i
  | [], x => .inl rfl
  | a :: L, x => by
    rcases mnU_att g L (min x (g a)) with h | ⟨i, h1, h2⟩
    · show mnU g (min x (g a)) L = x ∨ _
      rw [h]
      by_cases hx : x ≤ g a
      · exact .inl (by omega)
      · exact .inr ⟨a, by simp, by show mnU g (min x (g a)) L = g a; rw [h]; omega⟩
    · exact .inr ⟨i, List.mem_cons_of_mem _ h1, h2⟩
theorem sumN_le {f g : Nat → Int} : ∀ n, (∀ i, i < n → f i ≤ g i) → sumN f n ≤ sumN g n
  | 0, _ => Int.le_refl _
  | n + 1, h => by
    have h1 := sumN_le n (fun i hi => h i (by omega))
    have h2 := h n (by omega)
    unfold sumN; omega
theorem chS_le {lf f g : Nat → Int} {i n : Nat} (h : ∀ k, k < n → lf k = (i : Int) → f k ≤ g k) : chS lf f i n ≤ chS lf g i n := sumN_le n (fun k hk => by
  by_cases e : lf k = (i : Int)
  · rw [if_pos e, if_pos e]; exact h k hk e
  · rw [if_neg e, if_neg e]; exact Int.le_refl _)
/-- What is left before the k-th share, and the share. -/
def lfN (lf : Nat → Int) (m : Nat) (ld : Nat → Int) (E : List Nat) (k : Nat) : Nat → Int := (shN lf m ld (E.take k)).1
def ssN (lf : Nat → Int) (m : Nat) (ld : Nat → Int) (E : List Nat) (k : Nat) : Int := mnU (lfN lf m ld E k) (lfN lf m ld E k (E.getD k 0)) (upO lf m (E.getD k 0 : Nat))
theorem shN_list (lf : Nat → Int) (m : Nat) (ld : Nat → Int) (E : List Nat) : ∀ k, k ≤ E.length → (shN lf m ld (E.take k)).2 = (List.range k).map (ssN lf m ld E)
  | 0, _ => by simp [shN]
  | k + 1, hk => by
    rw [shN_take (by omega), List.range_succ, List.map_append]
    show (shN lf m ld (E.take k)).2 ++ [_] = _
    rw [shN_list lf m ld E k (by omega)]
    rfl
theorem sum_range (f : Nat → Int) : ∀ n, ((List.range n).map f).sum = sumN f n
  | 0 => rfl
  | n + 1 => by rw [List.range_succ, List.map_append, List.sum_append, sum_range f n]; simp [sumN]
theorem rb_congr {lf : Nat → Int} {m : Nat} {lo lo' : Nat → Int} {E : List Nat} (i : Nat) : ∀ k, (∀ j, j < k → lo j = lo' j) → rbN lf m lo E k i = rbN lf m lo' E k i
  | 0, _ => rfl
  | k + 1, h => by
    unfold rbN
    rw [rb_congr i k (fun j hj => h j (by omega)), h k (by omega)]
theorem rb_rest {lf : Nat → Int} {m : Nat} {lo : Nat → Int} {E : List Nat} (i k : Nat) : ∀ r, (∀ j, k ≤ j → lo j = 0) → rbN lf m lo E (k + r) i = rbN lf m lo E k i
  | 0, _ => rfl
  | r + 1, h => by
    rw [← Nat.add_assoc]
    show rbN lf m lo E (k + r) i + (if i ∈ upO lf m (E.getD (k + r) 0 : Nat) then lo (k + r) else 0) = _
    rw [rb_rest i k r h, h (k + r) (by omega)]
    split <;> omega
section
variable {lf : Nat → Int} {m : Nat} (hv : ∀ k, k < m → lf k < k ∧ -1 ≤ lf k)
include hv
theorem upO_in : ∀ (n : Nat) (x : Int), x < (n : Int) → x < (m : Int) → ∀ k k' : Nat, k ∈ upO lf m x → k' ∈ upO lf m x → k ≤ k' → k ∈ upO lf m (k' : Nat)
  | 0, x, h, _, k, k', hk, _, _ => by unfold upO at hk; rw [upL_end lf (by omega)] at hk; cases hk
  | n + 1, x, h, hx, k, k', hk, hk', hle => by
    by_cases h0 : x < 0
    · unfold upO at hk; rw [upL_end lf h0] at hk; cases hk
    · obtain ⟨y, rfl⟩ : ∃ y : Nat, x = (y : Int) := ⟨x.toNat, by omega⟩
      have hy := hv y (by omega)
      have hk0 := hk
      rw [upO_step hv (by omega)] at hk hk'
      rcases List.mem_cons.1 hk' with rfl | hk'
      · exact hk0
      · rcases List.mem_cons.1 hk with rfl | hk
        · have := upO_le hv (by omega) k' hk'
          omega
        · exact upO_in n (lf y) (by omega) (by omega) k k' hk hk' hle
theorem lf_rb {ld : Nat → Int} {E : List Nat} (i : Nat) : ∀ k, k ≤ E.length → lfN lf m ld E k i = ld i - rbN lf m (ssN lf m ld E) E k i
  | 0, _ => by have _ := hv; simp [lfN, shN, rbN]
  | k + 1, hk => by
    have ih := lf_rb (ld := ld) (E := E) i k (by omega)
    have e1 : lfN lf m ld E (k + 1) i = subU (lfN lf m ld E k) (ssN lf m ld E k) (upO lf m (E.getD k 0 : Nat)) i := by
      unfold lfN
      rw [shN_take (by omega)]
      rfl
    rw [e1]
    unfold subU
    show (if i ∈ upO lf m (E.getD k 0 : Nat) then _ else _) = ld i - (rbN lf m (ssN lf m ld E) E k i + if i ∈ upO lf m (E.getD k 0 : Nat) then ssN lf m ld E k else 0)
    by_cases h : i ∈ upO lf m (E.getD k 0 : Nat)
    · rw [if_pos h, if_pos h]; omega
    · rw [if_neg h, if_neg h]; omega
theorem lf_ok {ld : Nat → Int} {E : List Nat} (h : LdOk m ld) (hE : ∀ e ∈ E, e < m) {k : Nat} (hk : k ≤ E.length) : LdOk m (lfN lf m ld E k) := LdOk.take hv h hE k hk
theorem ss_bd {ld : Nat → Int} {E : List Nat} (h : LdOk m ld) (hE : ∀ e ∈ E, e < m) {k : Nat} (hk : k < E.length) : 0 ≤ ssN lf m ld E k ∧ ssN lf m ld E k ≤ 1000000 :=
  (lf_ok hv h hE (Nat.le_of_lt hk)).share hv (hE _ (by rw [List.getD_eq_getElem?_getD, List.getElem?_eq_getElem hk]; exact List.getElem_mem _))
theorem lf_down {ld : Nat → Int} {E : List Nat} (h : LdOk m ld) (hE : ∀ e ∈ E, e < m) (i k : Nat) : ∀ r, k + r ≤ E.length → lfN lf m ld E (k + r) i ≤ lfN lf m ld E k i
  | 0, _ => Int.le_refl _
  | r + 1, hr => by
    have h1 := lf_down h hE i k r (by omega)
    have h2 := ss_bd hv h hE (show k + r < E.length by omega)
    rw [lf_rb hv i (k + r) (by omega), lf_rb hv i k (by omega)] at h1
    rw [lf_rb hv i (k + (r + 1)) hr, lf_rb hv i k (by omega), ← Nat.add_assoc]
    show ld i - (rbN lf m (ssN lf m ld E) E (k + r) i + if i ∈ upO lf m (E.getD (k + r) 0 : Nat) then ssN lf m ld E (k + r) else 0) ≤ _
    split <;> omega
/-- Above each end some link bears its load. -/
theorem tight {ld : Nat → Int} {E : List Nat} (h : LdOk m ld) (hE : ∀ e ∈ E, e < m) {k : Nat} (hk : k < E.length) : ∃ j, j ∈ upO lf m (E.getD k 0 : Nat) ∧ j < m ∧ rbN lf m (ssN lf m ld E) E E.length j = ld j := by
  have he : E.getD k 0 < m := hE _ (by rw [List.getD_eq_getElem?_getD, List.getElem?_eq_getElem hk]; exact List.getElem_mem _)
  have hself : E.getD k 0 ∈ upO lf m (E.getD k 0 : Nat) := by rw [upO_step hv he]; simp
  obtain ⟨j, hj, hs⟩ : ∃ j, j ∈ upO lf m (E.getD k 0 : Nat) ∧ ssN lf m ld E k = lfN lf m ld E k j := by
    rcases mnU_att (lfN lf m ld E k) (upO lf m (E.getD k 0 : Nat)) (lfN lf m ld E k (E.getD k 0)) with h1 | ⟨j, h1, h2⟩
    · exact ⟨_, hself, h1⟩
    · exact ⟨j, h1, h2⟩
  have hjm : j < m := by have := upO_le hv (by omega) j hj; omega
  refine ⟨j, hj, hjm, ?_⟩
  have h1 := lf_down hv h hE j (k + 1) (E.length - (k + 1)) (by omega)
  rw [show k + 1 + (E.length - (k + 1)) = E.length by omega] at h1
  have h2 := (lf_ok hv h hE (Nat.le_refl E.length) j hjm).1
  have h3 : lfN lf m ld E (k + 1) j = 0 := by
    rw [lf_rb hv j (k + 1) (by omega)]
    show ld j - (rbN lf m (ssN lf m ld E) E k j + if j ∈ upO lf m (E.getD k 0 : Nat) then ssN lf m ld E k else 0) = 0
    rw [if_pos hj, hs, lf_rb hv j k (by omega)]
    omega
  have h4 := lf_rb hv (ld := ld) (E := E) j E.length (Nat.le_refl _)
  omega
/-- No link bears more by loads that may hang than it can. -/
theorem bo_le_gt {ld : Nat → Int} {lo : Nat → Int} {n : Nat} (hn : n ≤ (thN (enB m lf) m).length) (hf : ∀ i, i < m → boN lf m (owN lo (thN (enB m lf) m) n) i ≤ ld i) : ∀ (d i : Nat), i < m → boN lf m (owN lo (thN (enB m lf) m) n) i ≤ gtN ld lf m d i
  | 0, i, hi => hf i hi
  | d + 1, i, hi => by
    unfold gtN
    by_cases hc : hgB lf i m = true ∧ chS lf (gtN ld lf m d) i m < ld i
    · rw [if_pos hc, bo_child hv hn hi (hgB_of m hc.1)]
      exact chS_le (fun k hk _ => bo_le_gt hn hf d k hk)
    · rw [if_neg hc]; exact hf i hi
/-- With the shares the topmost link bears all that it can. -/
theorem gt_le_bo {ld : Nat → Int} (h : LdOk m ld) {b : Nat → Int} (hb : ∀ i, i < m → b i = boN lf m (owN (ssN lf m ld (thN (enB m lf) m)) (thN (enB m lf) m) (thN (enB m lf) m).length) i) : ∀ (d i : Nat), m - i ≤ d → i < m →
    (∀ k, k < (thN (enB m lf) m).length → i ∈ upO lf m ((thN (enB m lf) m).getD k 0 : Nat) → ∃ j, j ∈ upO lf m ((thN (enB m lf) m).getD k 0 : Nat) ∧ j < m ∧ i ∈ upO lf m (j : Nat) ∧ b j = ld j) → gtN ld lf m d i ≤ b i
  | 0, i, hd, hi, _ => by omega
  | d + 1, i, hd, hi, hT => by
    by_cases ht : b i = ld i
    · rw [ht]
      unfold gtN
      split <;> omega
    · cases hg : hgB lf i m with
      | false =>
        exfalso
        have hen : enB m lf i = true := enB_true (fun k hk e => by
          have : ∀ t, t ≤ m → hgB lf i t = false → ∀ k, k < t → lf k ≠ (i : Int) := by
            intro t
            induction t with
            | zero => intro _ _ k hk; omega
            | succ t ih =>
              intro ht hg k hk
              unfold hgB at hg
              simp only [Bool.or_eq_false_iff, decide_eq_false_iff_not] at hg
              by_cases e2 : k = t
              · subst e2; exact hg.2
              · exact ih (by omega) hg.1 k (by omega)
          exact this m (Nat.le_refl m) hg k hk e)
        have hmem : i ∈ thN (enB m lf) m := by unfold thN; exact List.mem_filter.2 ⟨List.mem_range.2 hi, hen⟩
        obtain ⟨k, hk, hki⟩ := List.getElem_of_mem hmem
        have e : (thN (enB m lf) m).getD k 0 = i := by rw [List.getD_eq_getElem?_getD, List.getElem?_eq_getElem hk]; exact hki
        have hii : i ∈ upO lf m (i : Nat) := by rw [upO_step hv hi]; simp
        obtain ⟨j, h1, h2, h3, h4⟩ := hT k hk (by rw [e]; exact hii)
        rw [e] at h1
        have h5 := upO_le hv (by omega) j h1
        have h6 := upO_le hv (by omega) i h3
        have : j = i := by omega
        subst this
        exact ht h4
      | true =>
        have hch := bo_child hv (lo := ssN lf m ld (thN (enB m lf) m)) (Nat.le_refl _) hi (hgB_of m hg)
        have h1 : gtN ld lf m (d + 1) i ≤ chS lf (gtN ld lf m d) i m := by
          unfold gtN
          rw [hg]
          split <;> simp_all
        refine Int.le_trans h1 ?_
        rw [hb i hi, hch]
        refine chS_le (fun c hc hci => ?_)
        rw [← hb c hc]
        have hcv := hv c hc
        refine gt_le_bo h hb d c (by omega) hc (fun k hk hck => ?_)
        have hek : (thN (enB m lf) m).getD k 0 < m := th_mem _ (by rw [List.getD_eq_getElem?_getD, List.getElem?_eq_getElem hk]; exact List.getElem_mem _)
        obtain ⟨j, h2, h3, h4, h5⟩ := hT k hk (upO_parent hv m _ (by omega) (by omega) c i hck hci)
        refine ⟨j, h2, h3, ?_, h5⟩
        by_cases hcj : c ≤ j
        · exact upO_in hv m _ (by omega) (by omega) c j hck h2 hcj
        · have h6 := upO_chain hv m _ (by omega) (by omega) j c h2 hck (by omega)
          have h7 := upO_le hv (by omega) i h4
          have : j = i := by omega
          subst this
          exact absurd h5 ht
end
end Go.Proofs.YteojmhfocdlnoaaDoor.Tr
