/- The minutes in which work goes: the iterator's value, and how many they are. -/
import Derived.Test.YtmhjahljilaijaaDoorTxWdn
namespace Go.Proofs.YtmhjahljilaijaaDoor.Tx
open Go.Proofs.YtmhjahljilaijaaDoor
open Go.RowKit Go.Shelf
attribute [local go_sem] Oper.semAt_some

theorem fl_split {p : Nat → Bool} {x : Nat} (hp : p x = true) : ∀ {n : Nat}, x < n → ∃ r, fl p n = fl p x ++ x :: r
  | n + 1, h => by
    rw [fl_succ]
    rcases Nat.lt_or_ge x n with h1 | h1
    · obtain ⟨r, hr⟩ := fl_split hp h1
      by_cases h2 : p n = true
      · exact ⟨r ++ [n], by rw [if_pos h2, hr]; simp⟩
      · exact ⟨r, by rw [if_neg h2, hr]⟩
    · obtain rfl : x = n := by omega
      exact ⟨[], by rw [if_pos hp]⟩
theorem where_it (s g c : Int) (a : Option Addr) (n cap : Nat) (f : Nat → Int) (q : Bool) (w : World) (hc : 1 ≤ c ∧ c ≤ 1000) (hn : n ≤ 2000) (hA : IAt w a n f) :
    ItOf ((w.alloc (.cells #[.int .i64 s, .int .i64 g, .int .i64 c, .slice a n cap] 51)).alloc (.cells #[.bool q] 4)) 37 #[.pointer (some ⟨w.heap.size, 0, none⟩), .pointer (some ⟨w.heap.size + 1, 0, none⟩)] (fl (pW s g c f q) n) 8 := by
  refine ⟨enters_of Tryd.func37 (by kernel_rfl) rfl, fun M W hW hM => ?_⟩
  have hs := hW.size
  simp only [World.size_alloc] at hs hM
  have fw : Fr (fun _ => False) w W := (((Fr.refl w).alloc _).alloc _).call hW
  have keep : ∀ (B o : Nat) (v : Value), ((w.alloc (.cells #[.int .i64 s, .int .i64 g, .int .i64 c, .slice a n cap] 51)).alloc (.cells #[.bool q] 4)).cell? ⟨B, o, none⟩ = some v → W.cell? ⟨B, o, none⟩ = some v := fun B o v h => (hW.cell (p := ⟨B, o, none⟩) (World.block_lt_of_cell? _ _ h)).trans h
  refine ⟨_, _, ?_, fun _ h => h, where1_fr 5 (by omega) w.heap.size (w.heap.size + 1) s g c a n cap f q M W (fun i h => (hM i h).2) (fun h => by have := hM _ h; omega) (fun h => by have := hM _ h; omega) (fun b off e h0 h => ?_) hc hn
    (keep _ _ _ (by simp [go_sem])) (keep _ _ _ (by simp [go_sem])) (keep _ _ _ (by simp [go_sem])) (keep _ _ _ (by simp [go_sem])) (keep _ _ _ (by simp [go_sem])) (hA.fr fw (fun _ _ _ _ => id))⟩
  · rintro pre x ⟨rfl, h1, h2⟩
    exact fl_split h2 h1
  · obtain ⟨b', off', e', h1, _⟩ := hA 0 h0
    rw [e] at e'
    cases e'
    have := hM _ h
    omega

/-- How many of some minutes lie in a part. -/
def cN (xs : List Nat) (fr to : Int) : Nat := (xs.filter fun k : Nat => decide (Btw (k : Int) fr (to - 1))).length
theorem cN_snoc (xs : List Nat) (x : Nat) (fr to : Int) : cN (xs ++ [x]) fr to = cN xs fr to + if decide (Btw (x : Int) fr (to - 1)) then 1 else 0 := by
  unfold cN
  rw [List.filter_append, List.length_append]
  cases h : decide (Btw (x : Int) fr (to - 1)) <;> simp [h]
theorem cN_le (xs : List Nat) (fr to : Int) : cN xs fr to ≤ xs.length := List.length_filter_le _ _

end Go.Proofs.YtmhjahljilaijaaDoor.Tx
