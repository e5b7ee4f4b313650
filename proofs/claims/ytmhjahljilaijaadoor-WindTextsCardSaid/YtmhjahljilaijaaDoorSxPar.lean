/- The program's Parse: the words' readings. -/
import Derived.Test.YtmhjahljilaijaaDoorSxStd
import Derived.Test.YtmhjahljilaijaaDoorSxSeq
import Derived.Test.YtmhjahljilaijaaDoorTxWdn
import Derived.Test.YtmhjahljilaijaaDoorTxWda
import Derived.OwnWalkIn
import Derived.Deep.AppendLies
namespace Go.Proofs.YtmhjahljilaijaaDoor.Tx
open Go.Proofs.YtmhjahljilaijaaDoor
open Go.RowKit Go.Shelf
attribute [local go_sem] Oper.semAt_some tx_toList

theorem splitSeq_mk (s : ByteArray) (w : World) :
    Calls Tryd.prog 17 #[.string s, .string ⟨#[32]⟩] w fun e w' => e = .returned (.func (.func 44) #[] #[.pointer (some ⟨w.heap.size + 1, 0, none⟩), .pointer (some ⟨w.heap.size, 0, none⟩), .pointer (some ⟨w.heap.size + 2, 0, none⟩)]) ∧
      ((w.alloc (.cells #[.string s] 9)).alloc (.cells #[.string ⟨#[32]⟩] 9)).alloc (.cells #[.int .i64 0] 3) = w' := by
  go_enter Tryd.func17, Tryd.ntmps17
  go_wp2_with (go_at_call 33; go_in)
  go_ret
  exact ⟨rfl, rfl⟩
/-- The readings of words. -/
def rgs (ws : List (List UInt8)) : List Int := ws.map rgF
def nvs (l : List Int) : List Value := l.map fun x => .int .i64 x
theorem rgs_snoc (ws : List (List UInt8)) (x : List UInt8) : rgs (ws ++ [x]) = rgs ws ++ [rgF x] := by simp [rgs]
theorem nvs_snoc (l : List Int) (x : Int) : nvs (l ++ [x]) = nvs l ++ [.int .i64 x] := by simp [nvs]
theorem rgs_len (ws : List (List UInt8)) : (rgs ws).length = ws.length := by simp [rgs]
theorem intInfox : (Tryd.prog.info? 3).map (fun i => (i.zero, i.size, i.bytes)) = some (some (.int .i64 0), 1, 8) := by kernel_rfl
theorem words_len32 {s : List UInt8} : ∀ {x : List UInt8}, x ∈ wordsL 32 s → x.length ≤ s.length := by
  have key : ∀ (n : Nat) (s : List UInt8), s.length ≤ n → ∀ x ∈ wordsL 32 s, x.length ≤ s.length := by
    intro n
    induction n with
    | zero =>
      intro s hs x hx
      have : s = [] := List.eq_nil_of_length_eq_zero (by omega)
      subst this
      simp [wordsL, cutW] at hx
      subst hx
      simp
    | succ n ih =>
      intro s hs x hx
      rcases cut_words 32 s with ⟨_, h2⟩ | ⟨a, b, _, h2, h3⟩
      · rw [h2] at hx
        rw [List.mem_singleton.1 hx]
        exact Nat.le_refl _
      · rw [h2] at hx
        rcases List.mem_cons.1 hx with rfl | h4
        · omega
        · have := ih b (by omega) x h4
          omega
  intro x hx
  exact key _ s (Nat.le_refl _) x hx
theorem ownsN_fr {B : Nat} {e : TypeId} {k : Nat} {v : Value} {n : Nat} {xs : List Value} {M : Nat → Prop} {w w' : World} (h : w.ownsRow B e k v n xs) (hf : Fr M w w') (hM : ∀ g o, B ≤ g → w.heap[g]? = some o → o.isCells = true → ¬ M g) : w'.ownsRow B e k v n xs := by
  obtain ⟨h1, h2 | ⟨g, cap, cur, a1, a2, a3, a4⟩⟩ := h
  · exact ⟨h1, .inl h2⟩
  · exact ⟨h1, .inr ⟨g, cap, cur, a1, a2, (hf.same g (Array.getElem?_eq_some_iff.1 a3).1 (hM g _ a2 a3 rfl)).trans a3, a4⟩⟩
theorem ownsN_cells {B : Nat} {e : TypeId} {k : Nat} {v : Value} {n : Nat} {xs : List Value} {w : World} (h : w.ownsRow B e k v n xs) {g : Nat} (hg : v.ownBlock = some g) : ∀ o, w.heap[g]? = some o → o.isCells = true ∧ ¬ NoO o := by
  rcases h with ⟨_, ⟨rfl, _⟩ | ⟨g', cap, cur, rfl, _, a3, _⟩⟩
  · cases hg
  · intro o ho
    cases hg
    rw [a3] at ho
    cases ho
    exact ⟨rfl, id⟩
theorem nrow_in {W : World} {B : Nat} {v : Value} {n : Nat} {l : List Int} (hr : W.ownsRow B 3 1 v n (nvs l)) : ∃ a cap, v = .slice a n cap ∧ IAt W a n (fun i => l.getD i 0) := by
  obtain ⟨a, cap, rfl⟩ := ownsR_shape hr
  refine ⟨a, cap, rfl, fun i hi => ?_⟩
  obtain ⟨g, c, e⟩ := Go.Joins.ownsRow_form hr (by omega)
  cases e
  have hl : (nvs l).length = n * 1 := hr.1
  simp only [nvs, List.length_map, Nat.mul_one] at hl
  refine ⟨g, 0, rfl, (hr.lt g rfl).2, ?_⟩
  rw [Nat.zero_add, hr.cellAt _ (by omega)]
  simp [nvs, show i < l.length by omega]
set_option maxRecDepth 100000 in
set_option maxHeartbeats 2000000 in
theorem parse_long (s : List UInt8) (w : World) (hs : 65536 < s.length) (hs2 : s.length ≤ 1000000000) :
    Calls Tryd.prog 7 #[.string (tx s)] w fun e w' => e = .returned (.tuple #[.slice none 0 0, .int .i64 3]) ∧ Below w.heap.size w w' := by
  have hz : (tx s).size = s.length := tx_size s
  have d1 : decide ((65536 : Int) < (s.length : Int)) = true := decide_eq_true (by omega)
  have hi : (s.length : Int) ≤ 1000000000 := by omega
  clear hs hs2
  go_enter Tryd.func7, Tryd.ntmps7
  go_wp2
  go_returns
  exact ⟨rfl, by (repeat' (first | (with_reducible exact Below.refl _ _) | (with_reducible assumption) | (with_reducible refine Below.alloc ?_ ?_ _) | (with_reducible refine Below.drew ?_) | (with_reducible refine below_drewN ?_ _) | (with_reducible refine Below.setCell ?_ ?_ _) | (with_reducible refine below_after ?_ ?_ _) | (with_reducible refine below_set ?_) | (with_reducible refine After.size_le _ ?_) | (with_reducible refine size_alloc_le ?_) | (with_reducible refine size_set_le ?_) | (with_reducible refine size_drewN_le ?_) | go_size))⟩
set_option maxRecDepth 100000 in
theorem parse_none (w : World) :
    Calls Tryd.prog 7 #[.string (tx [])] w fun e w' => e = .returned (.tuple #[.slice none 0 0, .int .i64 0]) ∧ Below w.heap.size w w' := by
  have e0 : (⟨#[]⟩ : ByteArray) = tx [] := rfl
  have hz : (tx []).size = 0 := rfl
  go_enter Tryd.func7, Tryd.ntmps7
  go_wp2
  go_returns
  exact ⟨rfl, by (repeat' (first | (with_reducible exact Below.refl _ _) | (with_reducible assumption) | (with_reducible refine Below.alloc ?_ ?_ _) | (with_reducible refine Below.drew ?_) | (with_reducible refine below_drewN ?_ _) | (with_reducible refine Below.setCell ?_ ?_ _) | (with_reducible refine below_after ?_ ?_ _) | (with_reducible refine below_set ?_) | (with_reducible refine After.size_le _ ?_) | (with_reducible refine size_alloc_le ?_) | (with_reducible refine size_set_le ?_) | (with_reducible refine size_drewN_le ?_) | go_size))⟩
/-- What Parse answers of words. -/
def PWd (w w' : World) (ws : List (List UInt8)) (b : Bool) (e : Ending) : Prop := match b with
  | true => ∃ v, e = .returned (.tuple #[v, .int .i64 0]) ∧ w'.ownsRow w.heap.size 3 1 v ws.length (nvs (rgs ws))
  | false => e = .returned (.tuple #[.slice none 0 0, .int .i64 2])
/-- An append at a step of a region that draws its order, inside a fence. -/
theorem stepIn_append_own {F : Fence} {n : Nat} {P : Program} (w : World) {ops : Array Oper} {o : Oper} {a : Act} {K : Act → World → Prop} {Q : Exit → Act → World → Prop} {E : Prop}
    (hg : o.guard = none) (s x : Operand) (t : TypeId) (hop : o.op = Op.call { callee := Callee.builtin Builtin.append, args := #[s, x], argTypes := #[t, t] })
    (base : Nat) (e : TypeId) (i : TypeInfo) (z : Value) (size bytes : Nat) (h1 : P.underlying t = some (.slice e)) (h2 : P.info? e = some i) (h3 : i.zero = some z) (h4 : i.size = size) (h5 : i.bytes = bytes) (h6 : z.cells.size = size) (h7 : 0 < size)
    (v : Value) (k : Nat) (xs : List Value) (hs : a.eval s = v) (hown : w.ownsRow base e size v k xs) (ad : Addr) (m c : Nat) (news : List Value) (hx : a.eval x = .slice (some ad) m c) (hn : news.length = m * size)
    (hc : ∀ j u, news[j]? = some u → w.cell? (ad.add j) = some u) (h1c : ∀ u ∈ news, u.oneCell' = true) (b1 : k + m ≤ maxLen) (b2 : (k + m) * bytes ≤ 140737488355328) (b3 : base ≤ w.heap.size)
    (hK : ∀ v' w', w'.ownsRow base e size v' (k + m) (xs ++ news) → w.grownBy w' v.ownBlock → (v' = .slice none 0 0 ↔ v = .slice none 0 0 ∧ m = 0) → K (a.put o.dst v') w') :
    if Region.wanted o (yielded ops a.tmps) = true then Oper.wpIn F n P o a w K Q else E := by
  have hw : Region.wanted o (yielded ops a.tmps) = true := by simp [Region.wanted, hg]
  rw [if_pos hw]
  obtain ⟨v', w', hrun, r1, r2, r3⟩ := run_append_own (P := P) w base t o.type e i z size bytes h1 h2 h3 h4 h5 h6 h7 v k xs hown ad m c news hn hc h1c b1 b2 b3
  unfold Oper.wpIn
  refine ⟨?_, ?_⟩
  · simp [Oper.about, hop, resolve, Target.leads, Sem.run_pure]
  · rw [Oper.semAt_plain F _ _ (by rw [hop]; intro c hc'; cases hc')]
    simp [execOp, hop, resolve, invoke, builtin, hs, hx, hrun, Result.andThen]
    exact hK v' w' r1 r2 r3
set_option maxRecDepth 1000000 in
set_option maxHeartbeats 4000000 in
theorem parse_words (s : List UInt8) (w : World) (hs : s.length ≤ 65536) (h0 : s ≠ []) (hS : Stx w) (F : List UInt8) (b : Bool) (hfb : (F == s) = b) (hF : ∀ (a : Option Addr) (cap : Nat) (W : World), Below w.heap.size w W → IAt W a (wordsL 32 s).length (fun i => (rgs (wordsL 32 s)).getD i 0) → Calls Tryd.prog 6 #[.slice a (wordsL 32 s).length cap] W fun e w' => e = .returned (.string (tx F)) ∧ Below W.heap.size W w') :
    Calls Tryd.prog 7 #[.string (tx s)] w fun e w' => PWd w w' (wordsL 32 s) b e ∧ Below w.heap.size w w' := by
  have e0 : (⟨#[]⟩ : ByteArray) = tx [] := rfl
  have hz : (tx s).size = s.length := tx_size s
  have hne : (s == []) = false := beq_eq_false_iff_ne.2 h0
  have d1 : decide ((65536 : Int) < (s.length : Int)) = false := decide_eq_false (by omega)
  have hsI : (s.length : Int) ≤ 65536 := by omega
  have HRd := Lib.hid (fun x W (hx : x.length ≤ 65536) (hW : Below w.heap.size w W) => readGust_any x hx W (hS.on hW))
  have hwl : (wordsL 32 s).length ≤ 65537 := Nat.le_trans (wordsL_len 32 s) (by omega)
  have HSL : Hid (s.length ≤ 65536) := Lib.hid hs
  have HF : Hid (∀ (a : Option Addr) (cap : Nat) (W : World), _) := hF
  have HM := Lib.hid (splitSeq_mk (tx s))
  obtain ⟨i0, hi, hz0, hz1, hz2⟩ := info_parts intInfox
  clear h0 hF hS hs
  refine (callsIn_wide (n := 6)).1 ?_
  refine callsIn_of_wp_marks Tryd.func7 rfl trivial ?_ rfl
  simp only [Tryd.ntmps7, List.size_toArray, List.length_cons, List.length_nil, Nat.reduceAdd, Nat.reduceSub, Array.replicate_succ, Array.replicate_zero, List.push_toArray, List.append_toArray, List.nil_append, List.cons_append]
  refine wpIn_wide.2 ?_
  go_wp2_with (go_at_call 17; refine (HM.out _).mono ?_; rintro e w9 ⟨rfl, rfl⟩)
  have B1 : Below w.heap.size w ((((w.alloc (.cells #[.slice none 0 0] 22)).alloc (.cells #[.string (tx s)] 9)).alloc (.cells #[.string ⟨#[32]⟩] 9)).alloc (.cells #[.int .i64 0] 3)) := by (repeat' (first | (with_reducible exact Below.refl _ _) | (with_reducible assumption) | (with_reducible refine Below.alloc ?_ ?_ _) | (with_reducible refine Below.drew ?_) | (with_reducible refine below_drewN ?_ _) | (with_reducible refine Below.setCell ?_ ?_ _) | (with_reducible refine below_after ?_ ?_ _) | (with_reducible refine below_set ?_) | (with_reducible refine After.size_le _ ?_) | (with_reducible refine size_alloc_le ?_) | (with_reducible refine size_set_le ?_) | (with_reducible refine size_drewN_le ?_) | go_size))
  obtain ⟨W0, hW0⟩ : ∃ W0, (((w.alloc (.cells #[.slice none 0 0] 22)).alloc (.cells #[.string (tx s)] 9)).alloc (.cells #[.string ⟨#[32]⟩] 9)).alloc (.cells #[.int .i64 0] 3) = W0 := ⟨_, rfl⟩
  have er : W0.cell? ⟨w.heap.size, 0, none⟩ = some (.slice none 0 0) := by rw [← hW0]; simp [go_sem]
  have ef : W0.frozen? ⟨w.heap.size, 0, none⟩ = false := by rw [← hW0]; simp [go_sem]
  have es : W0.heap.size = w.heap.size + 4 := by rw [← hW0]; simp
  have es1 : W0.cell? ⟨w.heap.size + 1, 0, none⟩ = some (.string (tx s)) := by rw [← hW0]; simp [go_sem]
  have ez1 : W0.frozen? ⟨w.heap.size + 1, 0, none⟩ = false := by rw [← hW0]; simp [go_sem]
  have es2 : W0.cell? ⟨w.heap.size + 1 + 1, 0, none⟩ = some (.string ⟨#[32]⟩) := by rw [← hW0]; simp [go_sem]
  have es3 : W0.cell? ⟨w.heap.size + 1 + 2, 0, none⟩ = some (.int .i64 0) := by rw [← hW0]; simp [go_sem]
  rw [hW0] at B1 ⊢
  clear hW0 HM
  have heg := enters_of (P := Tryd.prog) Tryd.func44 (by kernel_rfl) rfl
  refine wpIn_wide (n := 6).1 ?_
  refine wpIn_rangeFunc_fr rfl (by omega) (gf := 44) (lb := #[.pointer (some ⟨w.heap.size + 1 + 1, 0, none⟩), .pointer (some ⟨w.heap.size + 1, 0, none⟩), .pointer (some ⟨w.heap.size + 1 + 2, 0, none⟩)]) rfl trivial heg
    (O := fun i => i = w.heap.size + 1) (M := fun j => j = w.heap.size) (fun i h => by omega)
    (split_fr 5 (by omega) (w.heap.size + 1 + 1) (w.heap.size + 1) (w.heap.size + 1 + 2) s _ (by omega) (by omega) (by omega) (by omega) (by omega) W0 HSL.out es2 es1 es3 ez1)
    (fun j h => by omega) (fun _ => rfl)
    (fun pre V => (∃ v, V.cell? ⟨w.heap.size, 0, none⟩ = some v ∧ V.frozen? ⟨w.heap.size, 0, none⟩ = false ∧ V.ownsRow (W0.heap.size + 2 + 0) 3 1 v pre.length (nvs (rgs pre))) ∧ Below w.heap.size w V)
    (fun _ _ _ => False)
    (fun pre A A' hs hf => by
      obtain ⟨⟨v, h1, h2, h3⟩, h4⟩ := hs
      have nb : ∀ i, i < W0.heap.size → i ≠ w.heap.size + 1 → ¬ OwnM (fun i => i = w.heap.size + 1) W0.heap.size (W0.heap.size + 2 + 0) A i := fun i hi hne h => by
        rcases h with h | ⟨h, _⟩
        · exact hne h
        · omega
      exact ⟨⟨v, hf.cell (p := ⟨w.heap.size, 0, none⟩) (nb _ (by dsimp only; omega) (by dsimp only; omega)) h1, (hf.frozen (p := ⟨w.heap.size, 0, none⟩) (nb _ (by dsimp only; omega) (by dsimp only; omega)) (World.block_lt_of_cell? A _ h1)).trans h2, ownsN_fr h3 hf (fun g o hg ho hc hM => by
        rcases hM with h | ⟨_, h | ⟨o', h5, h6⟩⟩
        · omega
        · omega
        · rw [ho] at h5; cases h5; rw [hc] at h6; cases h6)⟩, h4.trans (hf.below h4.size (fun j hj => nb j (by omega) (by omega)))⟩)
    (fun _ _ _ _ hs _ => hs)
    ⟨⟨_, er, ef, World.ownsRow_nil _ _ _ _⟩, B1⟩
    (fun x a' V => a' = { tmps := #[.string (tx s), undef, .slice none 0 0, .int .i64 0, .pointer (some ⟨w.heap.size, 0, none⟩), .string (tx x), .bool false, .string (tx s), .int .i64 s.length, .bool false, .bool false, .string (tx s), .bool false, .string (tx s), .func (.func 44) #[] #[.pointer (some ⟨w.heap.size + 1 + 1, 0, none⟩), .pointer (some ⟨w.heap.size + 1, 0, none⟩), .pointer (some ⟨w.heap.size + 1 + 2, 0, none⟩)], .string (tx x), undef, undef, undef, undef, undef, undef, undef, undef, undef, undef], defers := [] })
    (fun x a' _ A A' hs hf => hs)
    ?assign ?body ?done ?stop
  case assign =>
    rintro l' pre x V K hnx hI hsz hK
    gi_wp2
    exact hK _ _ (Fr.refl V) hI rfl
  case body =>
    rintro l' pre x a' V ⟨r, hr⟩ ⟨rst, exs⟩ ⟨⟨v, h1, h2, h3⟩, hB⟩ rfl hsz
    have hlp : pre.length ≤ 65536 := by have := congrArg List.length exs; simp at this; omega
    have hxl : x.length ≤ 65536 := by
      have hm : x ∈ wordsL 32 s := by rw [exs]; simp
      have := words_len32 hm
      have := HSL.out
      omega
    have HO := Lib.hid (fun W hW => HRd.out x W hxl hW)
    have HB := Lib.hid hB
    have hbV : w.heap.size < V.heap.size := World.block_lt_of_cell? V _ h1
    clear hB exs
    gi_wp2
    refine wpIn_region_any (by kernel_rfl) ?_
    change wpAnyIn _ _ _ _ _ _ _ _ _ (World.drew _)
    refine wpAnyIn_ready (rs := [0, 1]) (by kernel_rfl) (by simp) ?_
    refine AllReadyIn.cons rfl (fun K hK => ?_) (AllReadyIn.cons rfl (fun K hK => ?_) AllReadyIn.nil)
    · skip
      go_simp
      refine hK _ _ ?_
      clear hK K
      refine wpAnyIn_ready (rs := [1]) (by kernel_rfl) (by simp) ?_
      refine AllReadyIn.cons rfl (fun K hK => ?_) AllReadyIn.nil
      go_simp
      refine hK _ _ ?_
      clear hK K
      refine wpAnyIn_ready (rs := [2]) (by kernel_rfl) (by simp) ?_
      refine AllReadyIn.cons rfl (fun K hK => ?_) AllReadyIn.nil
      go_simp
      refine ⟨trivial, (CallsIn.inRound l' (callsIn_wide.2 (HO.out _ HB.out.drew))).mono ?_⟩
      rintro e w2 ⟨rfl, hw2⟩
      refine hK _ _ ?_
      clear hK K
      have FV2 : Fr (fun _ => False) V w2 := ((Fr.refl V).drew).call hw2
      have h1' := FV2.cell (p := ⟨w.heap.size, 0, none⟩) id h1
      have h2' := (FV2.frozen (p := ⟨w.heap.size, 0, none⟩) id hbV).trans h2
      have hs2 := FV2.size
      have hbV2 : w.heap.size < w2.heap.size := by omega
      have HR2 := Lib.hid (ownsN_fr h3 FV2 (fun _ _ _ _ _ => id))
      have HF2 := Lib.hid FV2
      clear hw2 FV2
      refine wpAnyIn_ready (rs := [3]) (by kernel_rfl) (by simp) ?_
      refine AllReadyIn.cons rfl (fun K hK => ?_) AllReadyIn.nil
      go_simp
      refine hK _ _ ?_
      clear hK K
      refine wpAnyIn_ready (rs := [4]) (by kernel_rfl) (by simp) ?_
      refine AllReadyIn.cons rfl (fun K hK => ?_) AllReadyIn.nil
      refine stepIn_append_own _ rfl _ _ 22 rfl (W0.heap.size + 2 + 0) 3 i0 (.int .i64 0) 1 8 Tryd.underlying22 hi hz0 hz1 hz2 rfl (by decide) v pre.length (nvs (rgs pre)) (by rfl) (HR2.out.alloc _) ⟨w2.heap.size, 0, none⟩ 1 1 [.int .i64 (rgF x)] (by rfl) rfl (World.news_of_block (cs := #[.int .i64 (rgF x)]) (t := 3) (fr := (0, 0)) (heap_alloc_new w2 _)) (by simp [Value.oneCell']) (by unfold maxLen; omega) (by omega) (by simp; omega) ?_
      intro v' w3 hown' hgrow _
      obtain ⟨g', cap', rfl⟩ := Go.Joins.ownsRow_form hown' (by omega)
      refine hK _ _ ?_
      clear hK K
      have FV : Fr (RndM NoO (fun j => j = w.heap.size) (W0.heap.size + 2 + 0) V) V w3 := ((HF2.out.mono fun _ _ h => h.elim).alloc _).grown hgrow (fun j e => by
        have hlt := HR2.out.lt j e
        rcases Nat.lt_or_ge j V.heap.size with hj | hj
        · exact .inl (.inr ⟨hlt.1, fun o ho => ownsN_cells HR2.out e o ((HF2.out.same j hj id).trans ho)⟩)
        · exact .inr hj)
      have F3 : Fr (fun g => W0.heap.size + 2 + 0 ≤ g) V w3 := ((HF2.out.mono fun _ _ h => h.elim).alloc _).grown hgrow (fun j e => .inl (HR2.out.lt j e).1)
      have hc1 := F3.cell (p := ⟨w.heap.size, 0, none⟩) (by dsimp only; omega) h1
      have hf1 := (F3.frozen (p := ⟨w.heap.size, 0, none⟩) (by dsimp only; omega) hbV).trans h2
      have HFV := Lib.hid FV
      have HF3 := Lib.hid F3
      have HO3 := Lib.hid hown'
      clear FV F3 hown' hgrow
      refine wpAnyIn_ready (rs := [5]) (by kernel_rfl) (by simp) ?_
      refine AllReadyIn.cons rfl (fun K hK => ?_) AllReadyIn.nil
      go_simp
      refine hK _ _ ?_
      clear hK K
      refine wpAnyIn_done (by kernel_rfl) ?_ _
      have hB3 : Below w.heap.size w w3 := HB.out.trans (HF3.out.below (by omega) (fun i h => by omega))
      have hown2 := ownsN_fr HO3.out ((Fr.refl w3).setCell (M := fun g => g = w.heap.size) (p := ⟨w.heap.size, 0, none⟩) (.inl rfl) (.slice (some ⟨g', 0, none⟩) (pre.length + 1) cap')) (fun g o hg _ _ hM => by omega)
      refine ⟨HFV.out.setCell (p := ⟨w.heap.size, 0, none⟩) (.inl (.inl rfl)) _, ⟨_, World.cell?_setCell_same _ _ _ hc1, by simpa using hf1, ?_⟩, hB3.setCell (Nat.le_refl _) _⟩
      rw [rgs_snoc, nvs_snoc]
      simpa using hown2
    · skip
      go_simp
      refine hK _ _ ?_
      clear hK K
      refine wpAnyIn_ready (rs := [0, 2]) (by kernel_rfl) (by simp) ?_
      refine AllReadyIn.cons rfl (fun K hK => ?_) (AllReadyIn.cons rfl (fun K hK => ?_) AllReadyIn.nil)
      · skip
        go_simp
        refine hK _ _ ?_
        clear hK K
        refine wpAnyIn_ready (rs := [2]) (by kernel_rfl) (by simp) ?_
        refine AllReadyIn.cons rfl (fun K hK => ?_) AllReadyIn.nil
        go_simp
        refine ⟨trivial, (CallsIn.inRound l' (callsIn_wide.2 (HO.out _ HB.out.drew))).mono ?_⟩
        rintro e w2 ⟨rfl, hw2⟩
        refine hK _ _ ?_
        clear hK K
        have FV2 : Fr (fun _ => False) V w2 := ((Fr.refl V).drew).call hw2
        have h1' := FV2.cell (p := ⟨w.heap.size, 0, none⟩) id h1
        have h2' := (FV2.frozen (p := ⟨w.heap.size, 0, none⟩) id hbV).trans h2
        have hs2 := FV2.size
        have hbV2 : w.heap.size < w2.heap.size := by omega
        have HR2 := Lib.hid (ownsN_fr h3 FV2 (fun _ _ _ _ _ => id))
        have HF2 := Lib.hid FV2
        clear hw2 FV2
        refine wpAnyIn_ready (rs := [3]) (by kernel_rfl) (by simp) ?_
        refine AllReadyIn.cons rfl (fun K hK => ?_) AllReadyIn.nil
        go_simp
        refine hK _ _ ?_
        clear hK K
        refine wpAnyIn_ready (rs := [4]) (by kernel_rfl) (by simp) ?_
        refine AllReadyIn.cons rfl (fun K hK => ?_) AllReadyIn.nil
        refine stepIn_append_own _ rfl _ _ 22 rfl (W0.heap.size + 2 + 0) 3 i0 (.int .i64 0) 1 8 Tryd.underlying22 hi hz0 hz1 hz2 rfl (by decide) v pre.length (nvs (rgs pre)) (by rfl) (HR2.out.alloc _) ⟨w2.heap.size, 0, none⟩ 1 1 [.int .i64 (rgF x)] (by rfl) rfl (World.news_of_block (cs := #[.int .i64 (rgF x)]) (t := 3) (fr := (0, 0)) (heap_alloc_new w2 _)) (by simp [Value.oneCell']) (by unfold maxLen; omega) (by omega) (by simp; omega) ?_
        intro v' w3 hown' hgrow _
        obtain ⟨g', cap', rfl⟩ := Go.Joins.ownsRow_form hown' (by omega)
        refine hK _ _ ?_
        clear hK K
        have FV : Fr (RndM NoO (fun j => j = w.heap.size) (W0.heap.size + 2 + 0) V) V w3 := ((HF2.out.mono fun _ _ h => h.elim).alloc _).grown hgrow (fun j e => by
          have hlt := HR2.out.lt j e
          rcases Nat.lt_or_ge j V.heap.size with hj | hj
          · exact .inl (.inr ⟨hlt.1, fun o ho => ownsN_cells HR2.out e o ((HF2.out.same j hj id).trans ho)⟩)
          · exact .inr hj)
        have F3 : Fr (fun g => W0.heap.size + 2 + 0 ≤ g) V w3 := ((HF2.out.mono fun _ _ h => h.elim).alloc _).grown hgrow (fun j e => .inl (HR2.out.lt j e).1)
        have hc1 := F3.cell (p := ⟨w.heap.size, 0, none⟩) (by dsimp only; omega) h1
        have hf1 := (F3.frozen (p := ⟨w.heap.size, 0, none⟩) (by dsimp only; omega) hbV).trans h2
        have HFV := Lib.hid FV
        have HF3 := Lib.hid F3
        have HO3 := Lib.hid hown'
        clear FV F3 hown' hgrow
        refine wpAnyIn_ready (rs := [5]) (by kernel_rfl) (by simp) ?_
        refine AllReadyIn.cons rfl (fun K hK => ?_) AllReadyIn.nil
        go_simp
        refine hK _ _ ?_
        clear hK K
        refine wpAnyIn_done (by kernel_rfl) ?_ _
        have hB3 : Below w.heap.size w w3 := HB.out.trans (HF3.out.below (by omega) (fun i h => by omega))
        have hown2 := ownsN_fr HO3.out ((Fr.refl w3).setCell (M := fun g => g = w.heap.size) (p := ⟨w.heap.size, 0, none⟩) (.inl rfl) (.slice (some ⟨g', 0, none⟩) (pre.length + 1) cap')) (fun g o hg _ _ hM => by omega)
        refine ⟨HFV.out.setCell (p := ⟨w.heap.size, 0, none⟩) (.inl (.inl rfl)) _, ⟨_, World.cell?_setCell_same _ _ _ hc1, by simpa using hf1, ?_⟩, hB3.setCell (Nat.le_refl _) _⟩
        rw [rgs_snoc, nvs_snoc]
        simpa using hown2
      · skip
        go_simp
        refine ⟨trivial, (CallsIn.inRound l' (callsIn_wide.2 (HO.out _ HB.out.drew))).mono ?_⟩
        rintro e w2 ⟨rfl, hw2⟩
        refine hK _ _ ?_
        clear hK K
        have FV2 : Fr (fun _ => False) V w2 := ((Fr.refl V).drew).call hw2
        have h1' := FV2.cell (p := ⟨w.heap.size, 0, none⟩) id h1
        have h2' := (FV2.frozen (p := ⟨w.heap.size, 0, none⟩) id hbV).trans h2
        have hs2 := FV2.size
        have hbV2 : w.heap.size < w2.heap.size := by omega
        have HR2 := Lib.hid (ownsN_fr h3 FV2 (fun _ _ _ _ _ => id))
        have HF2 := Lib.hid FV2
        clear hw2 FV2
        refine wpAnyIn_ready (rs := [0, 3]) (by kernel_rfl) (by simp) ?_
        refine AllReadyIn.cons rfl (fun K hK => ?_) (AllReadyIn.cons rfl (fun K hK => ?_) AllReadyIn.nil)
        · skip
          go_simp
          refine hK _ _ ?_
          clear hK K
          refine wpAnyIn_ready (rs := [3]) (by kernel_rfl) (by simp) ?_
          refine AllReadyIn.cons rfl (fun K hK => ?_) AllReadyIn.nil
          go_simp
          refine hK _ _ ?_
          clear hK K
          refine wpAnyIn_ready (rs := [4]) (by kernel_rfl) (by simp) ?_
          refine AllReadyIn.cons rfl (fun K hK => ?_) AllReadyIn.nil
          refine stepIn_append_own _ rfl _ _ 22 rfl (W0.heap.size + 2 + 0) 3 i0 (.int .i64 0) 1 8 Tryd.underlying22 hi hz0 hz1 hz2 rfl (by decide) v pre.length (nvs (rgs pre)) (by rfl) (HR2.out.alloc _) ⟨w2.heap.size, 0, none⟩ 1 1 [.int .i64 (rgF x)] (by rfl) rfl (World.news_of_block (cs := #[.int .i64 (rgF x)]) (t := 3) (fr := (0, 0)) (heap_alloc_new w2 _)) (by simp [Value.oneCell']) (by unfold maxLen; omega) (by omega) (by simp; omega) ?_
          intro v' w3 hown' hgrow _
          obtain ⟨g', cap', rfl⟩ := Go.Joins.ownsRow_form hown' (by omega)
          refine hK _ _ ?_
          clear hK K
          have FV : Fr (RndM NoO (fun j => j = w.heap.size) (W0.heap.size + 2 + 0) V) V w3 := ((HF2.out.mono fun _ _ h => h.elim).alloc _).grown hgrow (fun j e => by
            have hlt := HR2.out.lt j e
            rcases Nat.lt_or_ge j V.heap.size with hj | hj
            · exact .inl (.inr ⟨hlt.1, fun o ho => ownsN_cells HR2.out e o ((HF2.out.same j hj id).trans ho)⟩)
            · exact .inr hj)
          have F3 : Fr (fun g => W0.heap.size + 2 + 0 ≤ g) V w3 := ((HF2.out.mono fun _ _ h => h.elim).alloc _).grown hgrow (fun j e => .inl (HR2.out.lt j e).1)
          have hc1 := F3.cell (p := ⟨w.heap.size, 0, none⟩) (by dsimp only; omega) h1
          have hf1 := (F3.frozen (p := ⟨w.heap.size, 0, none⟩) (by dsimp only; omega) hbV).trans h2
          have HFV := Lib.hid FV
          have HF3 := Lib.hid F3
          have HO3 := Lib.hid hown'
          clear FV F3 hown' hgrow
          refine wpAnyIn_ready (rs := [5]) (by kernel_rfl) (by simp) ?_
          refine AllReadyIn.cons rfl (fun K hK => ?_) AllReadyIn.nil
          go_simp
          refine hK _ _ ?_
          clear hK K
          refine wpAnyIn_done (by kernel_rfl) ?_ _
          have hB3 : Below w.heap.size w w3 := HB.out.trans (HF3.out.below (by omega) (fun i h => by omega))
          have hown2 := ownsN_fr HO3.out ((Fr.refl w3).setCell (M := fun g => g = w.heap.size) (p := ⟨w.heap.size, 0, none⟩) (.inl rfl) (.slice (some ⟨g', 0, none⟩) (pre.length + 1) cap')) (fun g o hg _ _ hM => by omega)
          refine ⟨HFV.out.setCell (p := ⟨w.heap.size, 0, none⟩) (.inl (.inl rfl)) _, ⟨_, World.cell?_setCell_same _ _ _ hc1, by simpa using hf1, ?_⟩, hB3.setCell (Nat.le_refl _) _⟩
          rw [rgs_snoc, nvs_snoc]
          simpa using hown2
        · skip
          go_simp
          refine hK _ _ ?_
          clear hK K
          refine wpAnyIn_ready (rs := [0]) (by kernel_rfl) (by simp) ?_
          refine AllReadyIn.cons rfl (fun K hK => ?_) AllReadyIn.nil
          go_simp
          refine hK _ _ ?_
          clear hK K
          refine wpAnyIn_ready (rs := [4]) (by kernel_rfl) (by simp) ?_
          refine AllReadyIn.cons rfl (fun K hK => ?_) AllReadyIn.nil
          refine stepIn_append_own _ rfl _ _ 22 rfl (W0.heap.size + 2 + 0) 3 i0 (.int .i64 0) 1 8 Tryd.underlying22 hi hz0 hz1 hz2 rfl (by decide) v pre.length (nvs (rgs pre)) (by rfl) (HR2.out.alloc _) ⟨w2.heap.size, 0, none⟩ 1 1 [.int .i64 (rgF x)] (by rfl) rfl (World.news_of_block (cs := #[.int .i64 (rgF x)]) (t := 3) (fr := (0, 0)) (heap_alloc_new w2 _)) (by simp [Value.oneCell']) (by unfold maxLen; omega) (by omega) (by simp; omega) ?_
          intro v' w3 hown' hgrow _
          obtain ⟨g', cap', rfl⟩ := Go.Joins.ownsRow_form hown' (by omega)
          refine hK _ _ ?_
          clear hK K
          have FV : Fr (RndM NoO (fun j => j = w.heap.size) (W0.heap.size + 2 + 0) V) V w3 := ((HF2.out.mono fun _ _ h => h.elim).alloc _).grown hgrow (fun j e => by
            have hlt := HR2.out.lt j e
            rcases Nat.lt_or_ge j V.heap.size with hj | hj
            · exact .inl (.inr ⟨hlt.1, fun o ho => ownsN_cells HR2.out e o ((HF2.out.same j hj id).trans ho)⟩)
            · exact .inr hj)
          have F3 : Fr (fun g => W0.heap.size + 2 + 0 ≤ g) V w3 := ((HF2.out.mono fun _ _ h => h.elim).alloc _).grown hgrow (fun j e => .inl (HR2.out.lt j e).1)
          have hc1 := F3.cell (p := ⟨w.heap.size, 0, none⟩) (by dsimp only; omega) h1
          have hf1 := (F3.frozen (p := ⟨w.heap.size, 0, none⟩) (by dsimp only; omega) hbV).trans h2
          have HFV := Lib.hid FV
          have HF3 := Lib.hid F3
          have HO3 := Lib.hid hown'
          clear FV F3 hown' hgrow
          refine wpAnyIn_ready (rs := [5]) (by kernel_rfl) (by simp) ?_
          refine AllReadyIn.cons rfl (fun K hK => ?_) AllReadyIn.nil
          go_simp
          refine hK _ _ ?_
          clear hK K
          refine wpAnyIn_done (by kernel_rfl) ?_ _
          have hB3 : Below w.heap.size w w3 := HB.out.trans (HF3.out.below (by omega) (fun i h => by omega))
          have hown2 := ownsN_fr HO3.out ((Fr.refl w3).setCell (M := fun g => g = w.heap.size) (p := ⟨w.heap.size, 0, none⟩) (.inl rfl) (.slice (some ⟨g', 0, none⟩) (pre.length + 1) cap')) (fun g o hg _ _ hM => by omega)
          refine ⟨HFV.out.setCell (p := ⟨w.heap.size, 0, none⟩) (.inl (.inl rfl)) _, ⟨_, World.cell?_setCell_same _ _ _ hc1, by simpa using hf1, ?_⟩, hB3.setCell (Nat.le_refl _) _⟩
          rw [rgs_snoc, nvs_snoc]
          simpa using hown2
  case done =>
    rintro D ys V hD rfl ⟨⟨v, h1, h2, h3⟩, hB⟩ hK
    obtain ⟨a, cap, rfl, hin⟩ := nrow_in h3
    have hDV : D < V.heap.size := (Array.getElem?_eq_some_iff.1 hK).1
    have hbV : w.heap.size < V.heap.size := World.block_lt_of_cell? V _ h1
    have HFV := Lib.hid (HF.out a cap V hB hin)
    have H3 := Lib.hid h3
    have HB := Lib.hid hB
    clear h3 hB h2 HF hin
    have fp := fun (X : World) => Fr.put X D (.deferred none)
    cases b
    · gi_wp2
      go_wp2_with (go_at_call 6; refine HFV.out.mono ?_; rintro e w9 ⟨rfl, hb9⟩; have h1' := (hb9.cell (p := ⟨w.heap.size, 0, none⟩) hbV).trans h1; have hK' := (hb9.block D hDV).trans hK; have HB9 := Lib.hid (HB.out.trans (hb9.mono HB.out.size)); clear hb9)
      refine ⟨by simp, .inl ⟨_, _, rfl, run_takeDeferred (by assumption), ?_⟩⟩
      refine ⟨.tuple #[.slice none 0 0, .int .i64 2], by simp [results, Tryd.results7, go_sem], rfl, HB9.out.trans ((Fr.put _ D _).below HB9.out.size (fun j h e => by omega))⟩
    · gi_wp2
      go_wp2_with (go_at_call 6; refine HFV.out.mono ?_; rintro e w9 ⟨rfl, hb9⟩; have h1' := (hb9.cell (p := ⟨w.heap.size, 0, none⟩) hbV).trans h1; have hK' := (hb9.block D hDV).trans hK; have HB9 := Lib.hid (HB.out.trans (hb9.mono HB.out.size)); have H39 := Lib.hid (ownsN_fr H3.out ((Fr.refl (M := fun _ => False) V).call hb9) (fun _ _ _ _ _ => id)); clear hb9)
      refine ⟨by simp, .inl ⟨_, _, rfl, run_takeDeferred (by assumption), ?_⟩⟩
      refine ⟨.tuple #[.slice a (wordsL 32 s).length cap, .int .i64 0], by simp [results, Tryd.results7, go_sem], ⟨_, rfl, ?_⟩, HB9.out.trans ((Fr.put _ D _).below HB9.out.size (fun j h e => by omega))⟩
      exact ownsN_fr (Go.Joins.ownsRow_le H39.out (by omega)) (Fr.put _ D _) (fun g o hg ho hc hM => by
        subst hM
        rw [hK'] at ho
        cases ho
        cases hc)
  case stop =>
    rintro D c pre X _ _ h _
    exact h.elim
end Go.Proofs.YtmhjahljilaijaaDoor.Tx
