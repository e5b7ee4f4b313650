/- The minutes in which work goes: the iterator's value, and how many they are. -/
import Derived.Test.YtfmoedlnjlkiiaaDoorWdn
namespace Go.Proofs.YtfmoedlnjlkiiaaDoor
open Go.RowKit Go.Shelf
attribute [local go_sem] Oper.semAt_some

theorem fl_split {p : Nat → Bool} {x : Nat} (hp : p x = true) : ∀ {n : Nat}, x < n → ∃ r, fl p n = fl p x ++ x :: r
  | n + 1, h => by
    rw [fl_succ]
    rcases Nat.lt_or_ge x n with h1 | h1
    · obtain ⟨r, hr⟩ := fl_split hp h1
      by_cases h2 : p n = true
      · exact ⟨r ++ [n], by rw [if_pos h2, hr]; simp⟩
      · exact ⟨r, by rw [if_neg h2, hr]⟩
    · obtain rfl : x = n := by omega
      exact ⟨[], by rw [if_pos hp]⟩
theorem where_it (s g c : Int) (a : Option Addr) (n cap : Nat) (f : Nat → Int) (q : Bool) (w : World) (hc : 1 ≤ c ∧ c ≤ 1000) (hn : n ≤ 2000) (hA : IAt w a n f) :
    ItOf ((w.alloc (.cells #[.int .i64 s, .int .i64 g, .int .i64 c, .slice a n cap] 67)).alloc (.cells #[.bool q] 4)) 76 #[.pointer (some ⟨w.heap.size, 0, none⟩), .pointer (some ⟨w.heap.size + 1, 0, none⟩)] (fl (pW s g c f q) n) 8 := by
  refine ⟨enters_of Tryd.func76 (by kernel_rfl) rfl, fun M W hW hM => ?_⟩
  have hs := hW.size
  simp only [World.size_alloc] at hs hM
  have fw : Fr (fun _ => False) w W := (((Fr.refl w).alloc _).alloc _).call hW
  have keep : ∀ (B o : Nat) (v : Value), ((w.alloc (.cells #[.int .i64 s, .int .i64 g, .int .i64 c, .slice a n cap] 67)).alloc (.cells #[.bool q] 4)).cell? ⟨B, o, none⟩ = some v → W.cell? ⟨B, o, none⟩ = some v := fun B o v h => (hW.cell (p := ⟨B, o, none⟩) (World.block_lt_of_cell? _ _ h)).trans h
  refine ⟨_, _, ?_, fun _ h => h, where1_fr 5 (by omega) w.heap.size (w.heap.size + 1) s g c a n cap f q M W (fun i h => (hM i h).2) (fun h => by have := hM _ h; omega) (fun h => by have := hM _ h; omega) (fun b off e h0 h => ?_) hc hn
    (keep _ _ _ (by simp [go_sem])) (keep _ _ _ (by simp [go_sem])) (keep _ _ _ (by simp [go_sem])) (keep _ _ _ (by simp [go_sem])) (keep _ _ _ (by simp [go_sem])) (hA.fr fw (fun _ _ _ _ => id))⟩
  · rintro pre x ⟨rfl, h1, h2⟩
    exact fl_split h2 h1
  · obtain ⟨b', off', e', h1, _⟩ := hA 0 h0
    rw [e] at e'
    cases e'
    have := hM _ h
    omega

/-- How many of some minutes lie in a part. -/
def cN (xs : List Nat) (fr to : Int) : Nat := (xs.filter fun k : Nat => decide (Btw (k : Int) fr (to - 1))).length
theorem cN_snoc (xs : List Nat) (x : Nat) (fr to : Int) : cN (xs ++ [x]) fr to = cN xs fr to + if decide (Btw (x : Int) fr (to - 1)) then 1 else 0 := by
  unfold cN
  rw [List.filter_append, List.length_append]
  cases h : decide (Btw (x : Int) fr (to - 1)) <;> simp [h]
theorem cN_le (xs : List Nat) (fr to : Int) : cN xs fr to ≤ xs.length := List.length_filter_le _ _

set_option maxRecDepth 100000 in
set_option maxHeartbeats 2000000 in
theorem count_any (s g c : Int) (a : Option Addr) (n cap : Nat) (f : Nat → Int) (fr to : Int) (w : World) (hc : 1 ≤ c ∧ c ≤ 1000) (hn : n ≤ 2000) (hA : IAt w a n f) (ht : -1000000 ≤ to ∧ to ≤ 1000000) :
    Calls Tryd.prog 60 #[waV s g c a n cap, .int .i64 fr, .int .i64 to] w fun e w' => e = .returned (.int .i64 (cN (fl (pW s g c f true) n) fr to : Nat)) ∧ Below w.heap.size w w' := by
  obtain ⟨ht1, ht2⟩ := ht
  have HW := Lib.hid (fun w => where_any s g c a n cap true w)
  have HA := Lib.hid hA
  have hab : ∀ b off, a = some ⟨b, off, none⟩ → 0 < n → b < w.heap.size := fun b off e h => by
    obtain ⟨b', off', e', h1, _⟩ := hA 0 h
    rw [e] at e'; cases e'; exact h1
  unfold waV at *
  refine (callsIn_wide (n := 6)).1 ?_
  refine callsIn_of_wp_marks Tryd.func60 rfl trivial ?_ rfl
  simp only [Tryd.ntmps60, List.size_toArray, List.length_cons, List.length_nil, Nat.reduceAdd, Nat.reduceSub, Array.replicate_succ, Array.replicate_zero, List.push_toArray, List.append_toArray, List.nil_append, List.cons_append]
  refine wpIn_wide.2 ?_
  go_wp2_with (go_at_call 52; refine (HW.out _).mono ?_; rintro e w2 ⟨rfl, rfl⟩)
  obtain ⟨W0, hW0⟩ : ∃ W0, ((((((w.alloc (.cells #[.int .i64 s, .int .i64 g, .int .i64 c, .slice a n cap] 67)).alloc (.cells #[.int .i64 fr] 3)).alloc (.cells #[.int .i64 to] 3)).alloc (.cells #[.int .i64 0] 3)).alloc (.cells #[.int .i64 s, .int .i64 g, .int .i64 c, .slice a n cap] 67)).alloc (.cells #[.bool true] 4)) = W0 := ⟨_, rfl⟩
  have cf : W0.cell? ⟨w.heap.size + 1, 0, none⟩ = some (.int .i64 fr) := by rw [← hW0]; simp [go_sem]
  have ct : W0.cell? ⟨w.heap.size + 1 + 1, 0, none⟩ = some (.int .i64 to) := by rw [← hW0]; simp [go_sem]
  have cn : W0.cell? ⟨w.heap.size + 1 + 1 + 1, 0, none⟩ = some (.int .i64 0) := by rw [← hW0]; simp [go_sem]
  have fn : W0.frozen? ⟨w.heap.size + 1 + 1 + 1, 0, none⟩ = false := by rw [← hW0]; simp [go_sem]
  have b0 : W0.cell? ⟨w.heap.size + 1 + 1 + 1 + 1, 0, none⟩ = some (.int .i64 s) := by rw [← hW0]; simp [go_sem]
  have b1 : W0.cell? ⟨w.heap.size + 1 + 1 + 1 + 1, 1, none⟩ = some (.int .i64 g) := by rw [← hW0]; simp [go_sem]
  have b2 : W0.cell? ⟨w.heap.size + 1 + 1 + 1 + 1, 2, none⟩ = some (.int .i64 c) := by rw [← hW0]; simp [go_sem]
  have b3 : W0.cell? ⟨w.heap.size + 1 + 1 + 1 + 1, 3, none⟩ = some (.slice a n cap) := by rw [← hW0]; simp [go_sem]
  have bq : W0.cell? ⟨w.heap.size + 1 + 1 + 1 + 1 + 1, 0, none⟩ = some (.bool true) := by rw [← hW0]; simp [go_sem]
  have es : W0.heap.size = w.heap.size + 6 := by rw [← hW0]; simp
  have B0 : Below w.heap.size w W0 := by rw [← hW0]; (repeat' (first | (with_reducible exact Below.refl _ _) | (with_reducible assumption) | (with_reducible refine Below.alloc ?_ ?_ _) | (with_reducible refine Below.drew ?_) | (with_reducible refine below_drewN ?_ _) | (with_reducible refine Below.setCell ?_ ?_ _) | (with_reducible refine below_after ?_ ?_ _) | (with_reducible refine below_set ?_) | (with_reducible refine After.size_le _ ?_) | (with_reducible refine size_alloc_le ?_) | (with_reducible refine size_set_le ?_) | (with_reducible refine size_drewN_le ?_) | go_size))
  have F0 : Fr (fun _ => False) w W0 := (Fr.refl w).call B0
  rw [hW0]
  clear hW0 HW
  refine wpIn_wide (n := 6).1 ?_
  refine wpIn_rangeFunc_fr rfl (by omega) (gf := 76) (lb := #[.pointer (some ⟨w.heap.size + 1 + 1 + 1 + 1, 0, none⟩), .pointer (some ⟨w.heap.size + 1 + 1 + 1 + 1 + 1, 0, none⟩)]) rfl trivial (enters_of Tryd.func76 (by kernel_rfl) rfl)
    (O := fun _ => False) (M := fun j => j = w.heap.size + 1 + 1 + 1) (fun _ h => h.elim)
    (where1_fr 5 (by omega) (w.heap.size + 1 + 1 + 1 + 1) (w.heap.size + 1 + 1 + 1 + 1 + 1) s g c a n cap f true _ W0 (fun i h => by omega) (fun h => by omega) (fun h => by omega) (fun b off e h0 h => by have := hab b off e h0; omega) hc hn b0 b1 b2 b3 bq (HA.out.fr F0 (fun _ _ _ _ => id)))
    (fun j h => by omega) (fun _ => rfl)
    (fun pre V => (V.cell? ⟨w.heap.size + 1 + 1 + 1, 0, none⟩ = some (.int .i64 (cN pre fr to : Nat)) ∧ V.frozen? ⟨w.heap.size + 1 + 1 + 1, 0, none⟩ = false ∧ V.cell? ⟨w.heap.size + 1, 0, none⟩ = some (.int .i64 fr) ∧ V.cell? ⟨w.heap.size + 1 + 1, 0, none⟩ = some (.int .i64 to)) ∧ Below w.heap.size w V)
    (fun _ _ _ => False)
    (fun pre A A' hs hf => by
      obtain ⟨⟨h1, h2, h3, h4⟩, h5⟩ := hs
      have nb : ∀ i, i < W0.heap.size → ¬ OwnM (fun _ => False) W0.heap.size (W0.heap.size + 2 + 8) A i := fun i hi h => by
        rcases h with h | ⟨h, _⟩
        · exact h
        · omega
      exact ⟨⟨hf.cell (p := ⟨w.heap.size + 1 + 1 + 1, 0, none⟩) (nb _ (by simp; omega)) h1, (hf.frozen (p := ⟨w.heap.size + 1 + 1 + 1, 0, none⟩) (nb _ (by simp; omega)) (World.block_lt_of_cell? A _ h1)).trans h2, hf.cell (p := ⟨w.heap.size + 1, 0, none⟩) (nb _ (by simp; omega)) h3, hf.cell (p := ⟨w.heap.size + 1 + 1, 0, none⟩) (nb _ (by simp; omega)) h4⟩, h5.trans (hf.below h5.size (fun j hj h => by rcases h with h | ⟨h, _⟩; exact h; omega))⟩)
    (fun _ _ _ _ hs _ => hs)
    ⟨⟨cn, fn, cf, ct⟩, B0⟩
    (fun x a' V => a' = { tmps := #[.agg #[.int .i64 s, .int .i64 g, .int .i64 c, .slice a n cap], .int .i64 fr, .int .i64 to, .pointer (some ⟨w.heap.size, 0, none⟩), .pointer (some ⟨w.heap.size + 1, 0, none⟩), .pointer (some ⟨w.heap.size + 1 + 1, 0, none⟩), .int .i64 0, .pointer (some ⟨w.heap.size + 1 + 1 + 1, 0, none⟩), .int .i64 x, .agg #[.int .i64 s, .int .i64 g, .int .i64 c, .slice a n cap], .func (.func 76) #[] #[.pointer (some ⟨w.heap.size + 1 + 1 + 1 + 1, 0, none⟩), .pointer (some ⟨w.heap.size + 1 + 1 + 1 + 1 + 1, 0, none⟩)], .int .i64 x, undef, undef, undef, undef, undef, undef, undef, undef], defers := [] })
    (fun x a' _ A A' hs hf => hs)
    ?assign ?body ?done ?stop
  case assign =>
    rintro l' pre x V K hnx hI hsz hK
    gi_wp2
    exact hK _ _ (Fr.refl V) hI rfl
  case body =>
    rintro l' pre x a' V ⟨r, hr⟩ hnx ⟨⟨h1, h2, h3, h4⟩, hB⟩ rfl hsz
    obtain ⟨hp, hxn, hpx⟩ := hnx
    have hxi : (x : Int) < 2000 := by omega
    have hcn : ((cN pre fr to : Nat) : Int) ≤ 2000 := by have := cN_le pre fr to; have := fl_len (pW s g c f true) x; rw [hp] at *; omega
    have HS := Lib.hid (cN_snoc pre x fr to)
    have HK := Lib.hid (fun W => between_any (x : Int) fr (to - 1) W)
    have HB := Lib.hid hB
    have hbV : w.heap.size + 1 + 1 + 1 < V.heap.size := World.block_lt_of_cell? V _ h1
    clear hB hp hpx
    generalize cN pre fr to = N at *
    generalize decide (Btw (x : Int) fr (to - 1)) = z at *
    cases z
    · gi_wp2
      refine ⟨trivial, (CallsIn.inRound l' (callsIn_wide.2 (HK.out V))).mono ?_⟩
      rintro e w3 ⟨rfl, rfl⟩
      gi_wp2
      exact ⟨Fr.refl _, ⟨by rw [HS.out]; exact h1, h2, h3, h4⟩, HB.out⟩
    · gi_wp2
      refine ⟨trivial, (CallsIn.inRound l' (callsIn_wide.2 (HK.out V))).mono ?_⟩
      rintro e w3 ⟨rfl, rfl⟩
      gi_wp2
      have FV : Fr (fun j => j = w.heap.size + 1 + 1 + 1) V (V.setCell ⟨w.heap.size + 1 + 1 + 1, 0, none⟩ (.int .i64 ((N : Int) + 1))) := (Fr.refl (M := fun j => j = w.heap.size + 1 + 1 + 1) V).setCell (p := ⟨w.heap.size + 1 + 1 + 1, 0, none⟩) (.inl rfl) _
      exact ⟨FV.mono fun _ _ h => .inl h, ⟨by rw [HS.out]; exact World.cell?_setCell_same _ _ _ h1, by simpa using h2, FV.cell (p := ⟨w.heap.size + 1, 0, none⟩) (by simp) h3, FV.cell (p := ⟨w.heap.size + 1 + 1, 0, none⟩) (by simp) h4⟩, HB.out.setCell (by simp; omega) _⟩
  case done =>
    rintro D ys V hD hys ⟨⟨h1, h2, h3, h4⟩, hB⟩ hK
    have HB := Lib.hid hB
    have hVs := hB.size
    clear hB h2 h3 h4
    subst hys
    gi_wp2
    go_wp2
    refine ⟨by simp, .inl ⟨_, _, rfl, run_takeDeferred hK, ?_⟩⟩
    have fp : Fr (fun j => j = D) V (V.putObj D (.deferred none)) := Fr.put V D _
    exact ⟨_, results_tmp rfl _ _ _, rfl, HB.out.trans (fp.below hVs (fun j h h' => by omega))⟩
  case stop =>
    rintro D c pre X _ _ h _
    exact h.elim
end Go.Proofs.YtfmoedlnjlkiiaaDoor
