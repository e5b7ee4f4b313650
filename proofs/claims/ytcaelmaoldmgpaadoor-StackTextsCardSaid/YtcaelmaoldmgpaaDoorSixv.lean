/- What Atoi gives, as a function of the word; the six numbers of a line. -/
import Derived.Test.YtcaelmaoldmgpaaDoorSixc
namespace Go.Proofs.YtcaelmaoldmgpaaDoor
open Go.RowKit Cr

/-- What Atoi's number is, whatever its error. -/
def atoiV (s : List UInt8) : Int := match Lib.atoiAll s with
  | .ok v => v
  | .«syntax» => 0
  | .range => Lib.atoiSat s
theorem atoiV_in (s : List UInt8) : I64 (atoiV s) := by
  unfold atoiV
  cases h : Lib.atoiAll s with
  | ok v => exact atoi_in h
  | «syntax» => show -9223372036854775808 ≤ (0 : Int) ∧ (0 : Int) ≤ 9223372036854775807; omega
  | range => show -9223372036854775808 ≤ Lib.atoiSat s ∧ Lib.atoiSat s ≤ 9223372036854775807; unfold Lib.atoiSat; split <;> omega
theorem atoiV_itoa {n : Int} (h : I64 n) : atoiV (Lib.itoa n) = n := by unfold atoiV; rw [atoi_itoa h]
theorem atoi_val {s : List UInt8} (hs : s.length ≤ 65536) {w : World} (hS : Std w) :
    Calls Tryd.prog 47 #[.string (tx s)] w fun e w' => (∃ err, e = .returned (.tuple #[.int .i64 (atoiV s), err]) ∧ (err = .nilIface ∨ ∃ t p, err = .iface t p)) ∧ Below w.heap.size w w' := by
  have hz : (tx s).size = s.length := tx_size s
  unfold atoiV
  cases h : Lib.atoiAll s with
  | ok v =>
    refine (Tryd.strconv_Atoi_ok (tx s) (by omega) v h w).mono ?_
    rintro e w' ⟨rfl, h2⟩
    refine ⟨⟨.nilIface, rfl, .inl rfl⟩, ?_⟩
    rcases h2 with rfl | ⟨t, rfl⟩
    · exact Below.refl _ _
    · exact Lib.bytesWorld_below _ _ _
  | «syntax» =>
    obtain ⟨tp, p, hv⟩ := hS.syn
    refine (Tryd.strconv_Atoi_syntax_var (tx s) (by omega) h tp p w hv).mono ?_
    rintro e w' ⟨N, rfl, _, _, h2⟩
    exact ⟨⟨_, rfl, .inr ⟨_, _, rfl⟩⟩, h2⟩
  | range =>
    obtain ⟨tp, p, hv⟩ := hS.rng
    refine (Tryd.strconv_Atoi_range_var (tx s) (by omega) h tp p w hv).mono ?_
    rintro e w' ⟨N, rfl, _, _, h2⟩
    exact ⟨⟨_, rfl, .inr ⟨_, _, rfl⟩⟩, h2⟩
/-- The numbers of a line's words. -/
def gvL (ws : List (List UInt8)) : Nat → Int := fun j => atoiV (ws.getD j [])
theorem gvL_in (ws : List (List UInt8)) : I6 (gvL ws) := fun _ _ => atoiV_in _
theorem gvL_at {ws : List (List UInt8)} {j : Nat} {t : List UInt8} (h : ws[j]? = some t) : gvL ws j = atoiV t := by
  unfold gvL
  rw [List.getD_eq_getElem?_getD, h]
  rfl
theorem gvL_itoa (ws : List (List UInt8)) : ∀ j, j < 6 → ∀ n, I64 n → ws[j]? = some (Lib.itoa n) → gvL ws j = n := fun _ _ _ hn h => by rw [gvL_at h, atoiV_itoa hn]
theorem Has6.congr {W : World} {B : Nat} {F G : Nat → Int} (h : Has6 W B F) (e : ∀ j, j < 6 → F j = G j) : Has6 W B G := ⟨h.lt, fun j hj => by rw [← e j hj]; exact h.got j hj, h.free⟩
theorem Has6.drew {W : World} {B : Nat} {F : Nat → Int} (h : Has6 W B F) : Has6 W.drew B F := ⟨h.lt, h.got, h.free⟩
theorem Has6.six {W : World} {B : Nat} {F : Nat → Int} (h : Has6 W B F) : W.cell? ⟨B, 0, none⟩ = some (.int .i64 (F 0)) ∧ W.cell? ⟨B, 1, none⟩ = some (.int .i64 (F 1)) ∧ W.cell? ⟨B, 2, none⟩ = some (.int .i64 (F 2)) ∧ W.cell? ⟨B, 3, none⟩ = some (.int .i64 (F 3)) ∧ W.cell? ⟨B, 4, none⟩ = some (.int .i64 (F 4)) ∧ W.cell? ⟨B, 5, none⟩ = some (.int .i64 (F 5)) :=
  ⟨h.got 0 (by omega), h.got 1 (by omega), h.got 2 (by omega), h.got 3 (by omega), h.got 4 (by omega), h.got 5 (by omega)⟩
/-- What the last line of readCourse works on: the result's block, the course's block. -/
def At (w : World) (F : Nat → Int) (cb : Nat) (W : World) : Prop := Below w.heap.size w W ∧ Has6 W w.heap.size (fun _ => 0) ∧ Has6 W cb F
theorem At.drew {w W : World} {F : Nat → Int} {cb : Nat} (h : At w F cb W) : At w F cb W.drew := ⟨h.1.drew, h.2.1.drew, h.2.2.drew⟩
theorem At.on {w W W' : World} {F : Nat → Int} {cb : Nat} (h : At w F cb W) (hb : Below W.heap.size W W') : At w F cb W' := ⟨h.1.trans (hb.mono h.1.size), h.2.1.on hb, h.2.2.on hb⟩
theorem At.put {w W : World} {F : Nat → Int} {cb : Nat} (h : At w F cb W) : ∃ X, set6 W w.heap.size F = X ∧ Has6 X w.heap.size F ∧ Below w.heap.size w X := put6 F h.2.1 h.1
theorem At.facts {w W : World} {F : Nat → Int} {cb : Nat} (h : At w F cb W) :
    (W.cell? ⟨w.heap.size, 0, none⟩ = some (.int .i64 0) ∧ W.cell? ⟨w.heap.size, 1, none⟩ = some (.int .i64 0) ∧ W.cell? ⟨w.heap.size, 2, none⟩ = some (.int .i64 0) ∧ W.cell? ⟨w.heap.size, 3, none⟩ = some (.int .i64 0) ∧ W.cell? ⟨w.heap.size, 4, none⟩ = some (.int .i64 0) ∧ W.cell? ⟨w.heap.size, 5, none⟩ = some (.int .i64 0)) ∧ (∀ o, W.frozen? ⟨w.heap.size, o, none⟩ = false) ∧
    (W.cell? ⟨cb, 0, none⟩ = some (.int .i64 (F 0)) ∧ W.cell? ⟨cb, 1, none⟩ = some (.int .i64 (F 1)) ∧ W.cell? ⟨cb, 2, none⟩ = some (.int .i64 (F 2)) ∧ W.cell? ⟨cb, 3, none⟩ = some (.int .i64 (F 3)) ∧ W.cell? ⟨cb, 4, none⟩ = some (.int .i64 (F 4)) ∧ W.cell? ⟨cb, 5, none⟩ = some (.int .i64 (F 5))) :=
  ⟨h.2.1.six, h.2.1.free, h.2.2.six⟩

end Go.Proofs.YtcaelmaoldmgpaaDoor
