/- Merged forecasts have the same windows; sure windows may be. -/
import Derived.Test.YtlnlgboeohfpdaaDoorWvh
import Derived.Test.YtlnlgboeohfpdaaDoorWvs
namespace Go.Proofs.YtlnlgboeohfpdaaDoor

theorem WnS.one {n : Nat} {fr to lo hi : Nat → Int} {mark k from' till e v e' v' : Int} {s : Bool} (h : WnS n fr to lo hi mark s k from' till e v) (h' : WnS n fr to lo hi mark s k from' till e' v') : e = e' ∧ v = v' := by
  unfold WnS at h h'
  split at h
  · rename_i hc
    rw [if_pos hc] at h'
    split at h
    · rename_i hr
      rw [if_pos hr] at h'
      exact h.one h' fun _ _ _ => Iff.rfl
    · rename_i hr
      rw [if_neg hr] at h'
      exact ⟨h.1.trans h'.1.symm, h.2.trans h'.2.symm⟩
  · rename_i hc
    rw [if_neg hc] at h'
    exact ⟨h.1.trans h'.1.symm, h.2.trans h'.2.symm⟩
theorem WnS.sub {n : Nat} {fr to lo hi : Nat → Int} {mark k from' till v e' v' : Int} (h : WnS n fr to lo hi mark true k from' till 0 v) (h' : WnS n fr to lo hi mark false k from' till e' v') : e' = 0 ∧ v' ≤ v := by
  unfold WnS at h h'
  split at h
  · rename_i hc
    rw [if_pos hc] at h'
    split at h
    · rename_i hr
      rw [if_pos hr] at h'
      refine h.sub h' fun m hm => ?_
      have hcs := (of_decide_eq_true hc).1
      obtain ⟨j, hj, h1, h2⟩ := fnB_iff.1 hm
      refine fnB_iff.2 fun i hi hc1 => ?_
      obtain rfl := cs_one hcs hj hi h1 hc1
      have := hcs j hj
      unfold OkC at this
      omega
    · exact absurd h.1 (by omega)
  · exact absurd h.1 (by omega)
/-- A minute has a cast that says so much. -/
def In0 (n : Nat) (fr to lo hi : Nat → Int) (m x y : Int) : Prop := ∃ k, k < n ∧ CIn fr to m k ∧ lo k = x ∧ hi k = y
theorem fnB_of {n n' : Nat} {fr to lo hi fr' to' lo' hi' : Nat → Int} {mark m : Int} {s : Bool} (h : ∀ x y, In0 n fr to lo hi m x y ↔ In0 n' fr' to' lo' hi' m x y) : fnB n fr to lo hi mark s m = fnB n' fr' to' lo' hi' mark s m := by
  rw [Bool.eq_iff_iff, fnB_iff, fnB_iff]
  cases s
  · constructor
    · intro hf k hk hc
      obtain ⟨j, hj, h1, h2, _⟩ := (h (lo' k) (hi' k)).2 ⟨k, hk, hc, rfl, rfl⟩
      have := hf j hj h1
      omega
    · intro hf k hk hc
      obtain ⟨j, hj, h1, h2, _⟩ := (h (lo k) (hi k)).1 ⟨k, hk, hc, rfl, rfl⟩
      have := hf j hj h1
      omega
  · constructor
    · rintro ⟨k, hk, hc, h3⟩
      obtain ⟨j, hj, h1, _, h2⟩ := (h (lo k) (hi k)).1 ⟨k, hk, hc, rfl, rfl⟩
      exact ⟨j, hj, h1, by omega⟩
    · rintro ⟨k, hk, hc, h3⟩
      obtain ⟨j, hj, h1, _, h2⟩ := (h (lo' k) (hi' k)).2 ⟨k, hk, hc, rfl, rfl⟩
      exact ⟨j, hj, h1, by omega⟩
def InQ (l : List Qd) (m x y : Int) : Prop := ∃ q, q ∈ l ∧ q.1 ≤ m ∧ m < q.2.1 ∧ q.2.2.1 = x ∧ q.2.2.2 = y
def qF (l : List Qd) (i : Nat) : Qd := l.getD i (0, 0, 0, 0)
theorem qF_at {l : List Qd} {i : Nat} (h : i < l.length) : qF l i = l[i] := by simp [qF, h]
theorem in0_q {l : List Qd} {m x y : Int} : In0 l.length (fun i => (qF l i).1) (fun i => (qF l i).2.1) (fun i => (qF l i).2.2.1) (fun i => (qF l i).2.2.2) m x y ↔ InQ l m x y := by
  constructor
  · rintro ⟨k, hk, ⟨h1, h2⟩, h3, h4⟩
    simp only [qF_at hk] at h1 h2 h3 h4
    exact ⟨l[k], List.getElem_mem hk, h1, h2, h3, h4⟩
  · rintro ⟨q, hq, h1, h2, h3, h4⟩
    obtain ⟨k, hk, rfl⟩ := List.getElem_of_mem hq
    exact ⟨k, hk, ⟨by simp only [qF_at hk]; exact h1, by simp only [qF_at hk]; exact h2⟩, by simp only [qF_at hk]; exact h3, by simp only [qF_at hk]; exact h4⟩
theorem inQ_snoc {l : List Qd} {q : Qd} {m x y : Int} : InQ (l ++ [q]) m x y ↔ InQ l m x y ∨ (q.1 ≤ m ∧ m < q.2.1 ∧ q.2.2.1 = x ∧ q.2.2.2 = y) := by
  constructor
  · rintro ⟨p, hp, h⟩
    rcases List.mem_append.1 hp with h1 | h1
    · exact .inl ⟨p, h1, h⟩
    · rw [List.mem_singleton.1 h1] at h
      exact .inr h
  · rintro (⟨p, hp, h⟩ | h)
    · exact ⟨p, List.mem_append.2 (.inl hp), h⟩
    · exact ⟨q, List.mem_append.2 (.inr (by simp)), h⟩
def OkQ (pre : List Qd) (x : Qd) : Prop := OkC x.1 x.2.1 x.2.2.1 x.2.2.2 (endQ pre)
theorem inRow_last {Q : List Qd → Qd → Prop} {l : List Qd} {y : Qd} (h : InRow Q (l ++ [y])) : InRow Q l ∧ Q l y :=
  ⟨fun pre x r e => h pre x (r ++ [y]) (by rw [e]; simp), h l y [] rfl⟩
theorem mgL_ok {n : Nat} {fr to lo hi : Nat → Int} (h : CsOk n fr to lo hi) : ∀ k, k ≤ n → InRow OkQ (mgL fr to lo hi k) ∧ endQ (mgL fr to lo hi k) = laC to k ∧ ∀ m x y, InQ (mgL fr to lo hi k) m x y ↔ In0 k fr to lo hi m x y
  | 0, _ => ⟨inRow_nil, rfl, fun m x y => ⟨fun ⟨q, hq, _⟩ => absurd hq (by simp [mgL]), fun ⟨k, hk, _⟩ => absurd hk (by omega)⟩⟩
  | k + 1, hk => by
    obtain ⟨h1, h2, h3⟩ := mgL_ok h k (by omega)
    have hc := h k (by omega)
    have hc' := hc
    unfold OkC at hc'
    have e : mgL fr to lo hi (k + 1) = addM (mgL fr to lo hi k) (cq fr to lo hi k) := rfl
    have st : ∀ m x y, In0 (k + 1) fr to lo hi m x y ↔ In0 k fr to lo hi m x y ∨ (fr k ≤ m ∧ m < to k ∧ lo k = x ∧ hi k = y) := fun m x y => by
      constructor
      · rintro ⟨j, hj, h4, h5⟩
        rcases Nat.lt_or_ge j k with h6 | h6
        · exact .inl ⟨j, h6, h4, h5⟩
        · obtain rfl : j = k := by omega
          exact .inr ⟨h4.1, h4.2, h5⟩
      · rintro (⟨j, hj, h4⟩ | ⟨h4, h5, h6⟩)
        · exact ⟨j, by omega, h4⟩
        · exact ⟨k, by omega, ⟨h4, h5⟩, h6⟩
    rw [e]
    have plain : InRow OkQ (mgL fr to lo hi k ++ [cq fr to lo hi k]) ∧ endQ (mgL fr to lo hi k ++ [cq fr to lo hi k]) = laC to (k + 1) ∧ ∀ m x y, InQ (mgL fr to lo hi k ++ [cq fr to lo hi k]) m x y ↔ In0 (k + 1) fr to lo hi m x y := by
      refine ⟨inRow_snoc h1 ?_, endQ_snoc _ _, fun m x y => ?_⟩
      · show OkC (fr k) (to k) (lo k) (hi k) _
        rw [h2]; exact hc
      · rw [inQ_snoc, h3, st]; rfl
    rcases nil_or_snoc (mgL fr to lo hi k) with hn | ⟨l', q, hn⟩
    · rw [hn] at plain ⊢
      exact plain
    · rw [hn, addM_last]
      by_cases ho : OnQ q (cq fr to lo hi k)
      · rw [if_pos ho]
        obtain ⟨o1, o2, o3⟩ := ho
        dsimp only [cq] at o1 o2 o3
        rw [hn] at h1 h3
        obtain ⟨r1, r2⟩ := inRow_last h1
        have r2' : OkC q.1 q.2.1 q.2.2.1 q.2.2.2 (endQ l') := r2
        unfold OkC at r2'
        refine ⟨inRow_snoc r1 ?_, endQ_snoc _ _, fun m x y => ?_⟩
        · show OkC q.1 (to k) q.2.2.1 q.2.2.2 (endQ l')
          unfold OkC
          omega
        · rw [inQ_snoc, st, ← h3, inQ_snoc]
          dsimp only [cq]
          constructor
          · rintro (h4 | ⟨h4, h5, h6, h7⟩)
            · exact .inl (.inl h4)
            · rcases Int.lt_or_le m q.2.1 with h8 | h8
              · exact .inl (.inr ⟨h4, h8, h6, h7⟩)
              · exact .inr ⟨by omega, h5, by omega, by omega⟩
          · rintro ((h4 | ⟨h4, h5, h6, h7⟩) | ⟨h4, h5, h6, h7⟩)
            · exact .inl h4
            · exact .inr ⟨h4, by omega, h6, h7⟩
            · exact .inr ⟨by omega, h5, by omega, by omega⟩
      · rw [if_neg ho, ← hn]
        exact plain
theorem csOk_q {l : List Qd} (h : InRow OkQ l) : CsOk l.length (fun i => (qF l i).1) (fun i => (qF l i).2.1) (fun i => (qF l i).2.2.1) (fun i => (qF l i).2.2.2) := by
  intro k hk
  have e : l = l.take k ++ l[k] :: l.drop (k + 1) := by
    rw [List.getElem_cons_drop, List.take_append_drop]
  have h1 := h (l.take k) l[k] (l.drop (k + 1)) e
  unfold OkQ at h1
  have e2 : endQ (l.take k) = laC (fun i => (qF l i).2.1) k := by
    cases k with
    | zero => rfl
    | succ j =>
      have : l.take (j + 1) = l.take j ++ [l[j]] := by rw [List.take_append_getElem]
      rw [this, endQ_snoc]
      show _ = (qF l j).2.1
      rw [qF_at (by omega)]
  rw [e2] at h1
  simp only [qF_at hk]
  exact h1
/-- Merged forecasts have the same windows. -/
theorem WnS.merged {n : Nat} {fr to lo hi : Nat → Int} {mark k from' till e v : Int} {s : Bool} (hc : GoodCs n fr to lo hi)
    (h : WnS (mgL fr to lo hi n).length (fun i => (qF (mgL fr to lo hi n) i).1) (fun i => (qF (mgL fr to lo hi n) i).2.1) (fun i => (qF (mgL fr to lo hi n) i).2.2.1) (fun i => (qF (mgL fr to lo hi n) i).2.2.2) mark s k from' till e v) :
    WnS n fr to lo hi mark s k from' till e v := by
  obtain ⟨h1, h2, h3⟩ := mgL_ok hc.1 n (Nat.le_refl n)
  have hc' : GoodCs (mgL fr to lo hi n).length (fun i => (qF (mgL fr to lo hi n) i).1) (fun i => (qF (mgL fr to lo hi n) i).2.1) (fun i => (qF (mgL fr to lo hi n) i).2.2.1) (fun i => (qF (mgL fr to lo hi n) i).2.2.2) := ⟨csOk_q h1, Nat.le_trans (mgL_len n) hc.2⟩
  have e : ∀ m, fnB (mgL fr to lo hi n).length (fun i => (qF (mgL fr to lo hi n) i).1) (fun i => (qF (mgL fr to lo hi n) i).2.1) (fun i => (qF (mgL fr to lo hi n) i).2.2.1) (fun i => (qF (mgL fr to lo hi n) i).2.2.2) mark s m = fnB n fr to lo hi mark s m := fun m => fnB_of fun x y => in0_q.trans (h3 m x y)
  unfold WnS at h ⊢
  rw [decide_eq_true hc'] at h
  rw [decide_eq_true hc]
  simpa only [e] using h
end Go.Proofs.YtlnlgboeohfpdaaDoor
