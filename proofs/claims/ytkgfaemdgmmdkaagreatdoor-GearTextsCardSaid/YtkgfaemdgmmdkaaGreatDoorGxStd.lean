/- strings.Cut, strings.Split, strconv.Itoa and Atoi over lists of bytes, in any later world. Needs the seat's own Shelf text (wip/tools/shelf.sh). -/
import Derived.Test.YtkgfaemdgmmdkaaGreatDoorShelf
import Derived.Test.YtkgfaemdgmmdkaaGreatDoorGxCutm
import Derived.Test.YtkgfaemdgmmdkaaGreatDoorGxAtoim
import Derived.Test.YtkgfaemdgmmdkaaGreatDoorGxNumbs
import Derived.Lib.AppendIntMem
namespace Go.Proofs.YtkgfaemdgmmdkaaGreatDoor.Gx
open Go.Proofs.YtkgfaemdgmmdkaaGreatDoor
open Go.RowKit

theorem var_on {P : Program} {g : Nat} {W W' : World} {n : String} {cs : Array Value} (hv : W.var? P n = some cs) (hg : P.globalNamed n = some g) (hl : g < W.heap.size) (h : Below W.heap.size W W') : W'.var? P n = some cs := by
  unfold World.var? at hv ⊢
  simp only [hg, Option.bind_some] at hv ⊢
  rwa [h.block g hl]
/-- What the library's variables hold. -/
structure Std (W : World) : Prop where
  tab : Lib.TabIs Tryz.prog W "internal/strconv.uint64pow10" .u64 Lib.pow10Tab
  syn : ∃ tp p, W.var? Tryz.prog "strconv.ErrSyntax" = some #[.iface tp p]
  rng : ∃ tp p, W.var? Tryz.prog "strconv.ErrRange" = some #[.iface tp p]
  mx : ∃ m, W.cell? ⟨0, 0, none⟩ = some (.int .i64 m)
  low : 1 < W.heap.size ∧ 2 < W.heap.size ∧ 3 < W.heap.size ∧ 0 < W.heap.size
theorem Std.on {W W' : World} (h : Std W) (hb : Below W.heap.size W W') : Std W' := by
  obtain ⟨h1, ⟨tp, p, h2⟩, ⟨tq, q, h3⟩, ⟨m, h4⟩, l1, l2, l3, l4⟩ := h
  have hs := hb.size
  refine ⟨var_on (g := 3) h1 (by kernel_rfl) l3 hb, ⟨tp, p, var_on (g := 1) h2 (by kernel_rfl) l1 hb⟩, ⟨tq, q, var_on (g := 2) h3 (by kernel_rfl) l2 hb⟩, ⟨m, ?_⟩, Nat.lt_of_lt_of_le l1 hs, Nat.lt_of_lt_of_le l2 hs, Nat.lt_of_lt_of_le l3 hs, Nat.lt_of_lt_of_le l4 hs⟩
  rw [hb.cell (p := ⟨0, 0, none⟩) l4]; exact h4
theorem itoa_any {n : Int} (h : I64 n) {w : World} (hS : Std w) :
    Calls Tryz.prog 36 #[.int .i64 n] w fun e w' => e = .returned (.string (tx (Lib.itoa n))) ∧ Below w.heap.size w w' :=
  (Tryz.strconv_Itoa n h.1 h.2 w hS.tab).mono fun e w' ⟨h1, k, os, h2⟩ => ⟨h1, by rw [h2]; exact Lib.below_grow _ w (Nat.le_refl _) k os⟩
theorem atoi_any {s : List UInt8} (hs : s.length ≤ 65536) {w : World} (hS : Std w) :
    Calls Tryz.prog 41 #[.string (tx s)] w fun e w' => (∃ N err, e = .returned (.tuple #[.int .i64 N, err]) ∧ I64 N ∧ (err = .nilIface ∨ ∃ t p, err = .iface t p) ∧ ∀ n, I64 n → Lib.itoa n = s → N = n ∧ err = .nilIface) ∧ Below w.heap.size w w' := by
  have hz : (tx s).size = s.length := tx_size s
  cases h : Lib.atoiAll s with
  | ok v =>
    refine (Tryz.strconv_Atoi_ok (tx s) (by omega) v h w).mono ?_
    rintro e w' ⟨rfl, h2⟩
    refine ⟨⟨v, .nilIface, rfl, atoi_in h, .inl rfl, fun n hn he => ⟨?_, rfl⟩⟩, ?_⟩
    · rw [← he, atoi_itoa hn] at h
      injection h with h
      exact h.symm
    · rcases h2 with rfl | ⟨t, rfl⟩
      · exact Below.refl _ _
      · exact Lib.bytesWorld_below _ _ _
  | «syntax» =>
    obtain ⟨tp, p, hv⟩ := hS.syn
    refine (Tryz.strconv_Atoi_syntax_var (tx s) (by omega) h tp p w hv).mono ?_
    rintro e w' ⟨N, rfl, _, _, h2⟩
    exact ⟨⟨0, _, rfl, by unfold I64; omega, .inr ⟨_, _, rfl⟩, fun n hn he => by rw [← he, atoi_itoa hn] at h; cases h⟩, h2⟩
  | range =>
    obtain ⟨tp, p, hv⟩ := hS.rng
    refine (Tryz.strconv_Atoi_range_var (tx s) (by omega) h tp p w hv).mono ?_
    rintro e w' ⟨N, rfl, _, _, h2⟩
    exact ⟨⟨_, _, rfl, by unfold I64 Lib.atoiSat; split <;> omega, .inr ⟨_, _, rfl⟩, fun n hn he => by rw [← he, atoi_itoa hn] at h; cases h⟩, h2⟩
end Go.Proofs.YtkgfaemdgmmdkaaGreatDoor.Gx
