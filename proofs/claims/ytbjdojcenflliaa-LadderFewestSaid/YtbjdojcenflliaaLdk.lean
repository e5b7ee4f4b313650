/- Lists of indexes in memory; an append to an own one; what an iterator of lists answers. -/
import Derived.Test.YtbjdojcenflliaaLdg
import Derived.Test.YtbjdojcenflliaaLdw
import Derived.Test.YtbjdojcenflliaaLdma
import Derived.RangeFuncOwn
import Derived.OwnWalkIn
import Derived.Laws.OwnMore
namespace Go.Proofs.Ytbjdojcenflliaa
open Go.RowKit Go.Shelf Go.Maps
attribute [local go_sem] Oper.semAt_some

theorem intInfo3 : (Try.prog.info? 3).map (fun i => (i.zero, i.size, i.bytes)) = some (some (.int .i64 0), 1, 8) := by kernel_rfl
/-- A slice that holds indexes. -/
def NAt (W : World) (v : Value) (L : List Nat) : Prop := (v = .slice none 0 0 ∧ L = []) ∨ ∃ b off cap, v = .slice (some ⟨b, off, none⟩) L.length cap ∧ b < W.heap.size ∧ ∀ i, i < L.length → W.cell? ⟨b, off + i, none⟩ = some (.int .i64 (L.getD i 0 : Nat))
theorem NAt.fr {M : Nat → Prop} {W W' : World} {v : Value} {L : List Nat} (h : NAt W v L) (hf : Fr M W W') (hM : ∀ b off cap, v = .slice (some ⟨b, off, none⟩) L.length cap → ∀ i, i < L.length → ¬ M b) : NAt W' v L := by
  rcases h with h | ⟨b, off, cap, e, h1, h2⟩
  · exact .inl h
  · exact .inr ⟨b, off, cap, e, Nat.lt_of_lt_of_le h1 hf.size, fun i hi => hf.cell (p := ⟨b, off + i, none⟩) (hM _ _ _ e i hi) (h2 i hi)⟩
theorem NAt.on {W W' : World} {v : Value} {L : List Nat} (h : NAt W v L) (hb : Below W.heap.size W W') : NAt W' v L := h.fr ((Fr.refl (M := fun _ => False) W).call hb) (fun _ _ _ _ _ _ => id)
theorem nat_bides (B : Nat) (x : Value) (L : List Nat) : BidesN (β := Unit) B (fun _ W => NAt W x L) := fun _ A A' h hf => by
  rcases h with h | ⟨b, off, cap, e, h1, h2⟩
  · exact .inl h
  · refine .inr ⟨b, off, cap, e, Nat.lt_of_lt_of_le h1 hf.size, fun i hi => hf.cell (p := ⟨b, off + i, none⟩) (fun h => ?_) (h2 i hi)⟩
    obtain ⟨o, ho, hc⟩ := h.2
    obtain ⟨o2, q1, q2⟩ := cells_of_cell (h2 i hi)
    rw [ho] at q1; cases q1; rw [hc] at q2; cases q2
/-- Indexes as cells. -/
def nvs (L : List Nat) : List Value := L.map fun k => .int .i64 (k : Nat)
theorem nvs_len (L : List Nat) : (nvs L).length = L.length * 1 := by simp [nvs]
theorem nvs_get {L : List Nat} {i : Nat} (hi : i < L.length) : (nvs L)[i]? = some (.int .i64 (L.getD i 0 : Nat)) := by
  unfold nvs
  rw [List.getElem?_map, List.getElem?_eq_getElem hi]
  simp [List.getD, hi]
theorem nvs_inv {L : List Nat} {i : Nat} {u : Value} (h : (nvs L)[i]? = some u) : i < L.length ∧ u = .int .i64 (L.getD i 0 : Nat) := by
  have hi : i < L.length := by
    rcases Nat.lt_or_ge i L.length with h1 | h1
    · exact h1
    · rw [List.getElem?_eq_none (by have := nvs_len L; omega)] at h; cases h
  rw [nvs_get hi] at h
  exact ⟨hi, by cases h; rfl⟩
theorem nvs_one (L : List Nat) : ∀ u ∈ nvs L, u.oneCell' = true := fun u hu => by
  obtain ⟨i, hi, rfl⟩ := List.mem_map.1 hu
  rfl
theorem nat_of_own {W : World} {B : Nat} {v : Value} {L : List Nat} (h : W.ownsRow B 3 1 v L.length (nvs L)) (h1 : 1 ≤ L.length) : NAt W v L := by
  obtain ⟨g, cap, rfl⟩ := Go.Joins.ownsRow_form h h1
  have hl := h.lt g rfl
  refine .inr ⟨g, 0, cap, rfl, hl.2, fun i hi => ?_⟩
  rw [Nat.zero_add, h.cellAt _ (by omega)]
  exact nvs_get hi
theorem wpIn_append_nat {F : Fence} {n : Nat} {P : Program} {o : Oper} {a : Act} {K : Act → World → Prop} {Q : Exit → Act → World → Prop} (w : World)
    (s x : Operand) (t : TypeId) (hop : o.op = Op.call { callee := Callee.builtin Builtin.append, args := #[s, x], argTypes := #[t, t] })
    (base : Nat) (e : TypeId) (i : TypeInfo) (z : Value) (h1 : P.underlying t = some (.slice e)) (h2 : P.info? e = some i) (h3 : i.zero = some z) (h4 : i.size = 1) (h5 : i.bytes = 8) (h6 : z.cells.size = 1)
    (v : Value) (xs : List Nat) (hs : a.eval s = v) (hown : w.ownsRow base e 1 v xs.length (nvs xs)) (u : Value) (L : List Nat) (hx : a.eval x = u) (hL : NAt w u L) (b1 : xs.length + L.length ≤ 1000000) (b3 : base ≤ w.heap.size)
    (hK : ∀ v' w', w'.ownsRow base e 1 v' (xs ++ L).length (nvs (xs ++ L)) → w.grownBy w' v.ownBlock → K (a.put o.dst v') w') :
    o.wpIn F n P a w K Q := by
  have hlen : (xs ++ L).length = xs.length + L.length := List.length_append
  have hnv : nvs (xs ++ L) = nvs xs ++ nvs L := List.map_append
  rcases hL with ⟨rfl, rfl⟩ | ⟨b, off, cap, rfl, hb, hc⟩
  · have hrun := run_append_owned_none (P := P) (w := w) base t o.type e i 1 h1 h2 v xs.length (nvs xs) hown
    unfold Oper.wpIn
    refine ⟨?_, ?_⟩
    · simp [Oper.about, hop, resolve, Target.leads, Sem.run_pure]
    · rw [Oper.semAt_plain F _ _ (by rw [hop]; intro c hc'; cases hc')]
      simp [execOp, hop, resolve, invoke, builtin, hs, hx, hrun, Result.andThen]
      exact hK v w (by simpa [nvs] using hown) ⟨rfl, rfl, rfl, Nat.le_refl _, fun _ _ _ => rfl⟩
  · obtain ⟨v', w', hrun, r1, r2, _⟩ := run_append_own (P := P) w base t o.type e i z 1 8 h1 h2 h3 h4 h5 h6 (by omega) v xs.length (nvs xs) hown ⟨b, off, none⟩ L.length cap (nvs L) (nvs_len L)
      (fun j u hu => by obtain ⟨hj, rfl⟩ := nvs_inv hu; rw [Addr.add_lit]; exact hc j hj) (nvs_one L) (by unfold maxLen; omega) (by omega) b3
    unfold Oper.wpIn
    refine ⟨?_, ?_⟩
    · simp [Oper.about, hop, resolve, Target.leads, Sem.run_pure]
    · rw [Oper.semAt_plain F _ _ (by rw [hop]; intro c hc'; cases hc')]
      simp [execOp, hop, resolve, invoke, builtin, hs, hx, hrun, Result.andThen]
      exact hK _ _ (by rw [hlen, hnv]; exact r1) r2
theorem fsL_at {h : Nat → Int} {u : Nat → Bool} {N : Nat} {b st : Int} {i m x : Nat} {c : Nat → Nat} {pre r : List Nat} (exs : upT h u N b i = pre ++ x :: r) (hp : ∀ k ∈ pre, c k ≠ m + 1) (hx : c x = m + 1) : fsL h u N st c (m + 1) b i = x :: fsL h u N st c m (h x + st) (x + 1) := by
  have hf : (upT h u N b i).find? (fun k => c k == m + 1) = some x := by
    rw [exs, List.find?_append, List.find?_eq_none.2 (fun k hk => by simpa using hp k hk)]
    simp [hx]
  simp only [fsL, hf]
theorem fsL_len {h : Nat → Int} {u : Nat → Bool} {N : Nat} {st : Int} {c : Nat → Nat} : ∀ (m i : Nat) (b : Int), (fsL h u N st c m b i).length ≤ m
  | 0, _, _ => Nat.le_refl 0
  | m + 1, i, b => by
    cases hf : (upT h u N b i).find? (fun k => c k == m + 1) with
    | none => simp only [fsL, hf]; simp
    | some k =>
      simp only [fsL, hf, List.length_cons]
      have := fsL_len (h := h) (u := u) (N := N) (st := st) (c := c) m (k + 1) (h k + st)
      omega
theorem roundIn_wide3 {n n' : Nat} {P : Program} {l l2 : Nat} {f : FuncId} {tmps : Array Value} {assign body : Code} {w : World} {R : Ending → World → Prop} (h : RoundIn Fence.wide n P l f tmps assign body w R) : RoundIn (Fence.wide.inRound l2) n' P l f tmps assign body w R := ⟨h.1, fun c cs _ => h.2 c cs (room_wide _)⟩
theorem SeqX.weak {α : Type} {F : Fence} {n : Nat} {P : Program} {g : Nat} {lb : Array Value} {encs : α → Array Value} {M : Nat → Prop} {X X' : α → World → Prop} {w : World} (h : SeqX F n P g lb encs M X w) (hX : ∀ x W, X x W → X' x W) : SeqX F n P g lb encs M X' w := fun l J Jx W h1 h2 h3 h4 h5 h6 h7 => h l J Jx W h1 h2 h3 h4 h5 (fun x W1 hx hj hs => h6 x W1 (hX x W1 hx) hj hs) h7
/-- What rests answers at a place that is taken with N places behind it. -/
def RestX (a : Option Addr) (n cap : Nat) (hg : Nat → Int) (us : Nat → Bool) (fi st la : Int) (c : Nat → Nat) (B t N : Nat) : Prop :=
  ∀ (k : Nat) (w : World), k < n → c k = N + 1 → JtAt w a n hg us → Ic w B t c →
    Calls Try.prog 80 #[.agg #[.slice a n cap, .int .i64 fi, .int .i64 st, .int .i64 la], .map (some B), .int .i64 (k : Nat), .int .i64 (N : Nat)] w fun e w' =>
      (∃ g lb, e = .returned (.func (.func g) #[] lb) ∧ (∀ args W, (callFunc g args).run Try.prog W = .ok (.enter g args) W) ∧
        ∀ (q : Nat) (M : Nat → Prop), (∀ j, M j → j < w.heap.size ∧ j ≠ B) → (∀ b off, a = some ⟨b, off, none⟩ → 0 < n → ¬ M b) →
          SeqX Fence.wide q Try.prog g lb (fun x : Value => #[x]) M (fun x W => NAt W x (fsL hg us n st c N (hg k + st) (k + 1))) w') ∧ Below w.heap.size w w'
theorem rest0_x (a : Option Addr) (n cap : Nat) (hg : Nat → Int) (us : Nat → Bool) (fi st la : Int) (c : Nat → Nat) (B t : Nat) : RestX a n cap hg us fi st la c B t 0 := fun k w hk hck hA hC => by
  refine (rests_0 a n cap B fi st la k w).mono ?_
  rintro e w2 ⟨⟨Bx, b, rfl, h1, h2⟩, hb⟩
  refine ⟨⟨_, _, rfl, enters_of Try.func84 (by kernel_rfl) rfl, fun q M hM hMb => ?_⟩, hb⟩
  refine (values1_x q Bx b 0 1 none 0 0 M (fun _ => True) w2 (fun _ _ _ _ _ => trivial) trivial h1 h2).weak ?_
  rintro x W ⟨rfl, _⟩
  exact .inl ⟨rfl, rfl⟩
end Go.Proofs.Ytbjdojcenflliaa
