/- Items of a list in memory; the program's writeItem; Format of the program. -/
import Derived.Test.YtkgfaemdgmmdkaaGreatDoorIpm
import Derived.Test.YtkgfaemdgmmdkaaGreatDoorGxGop
import Derived.Test.YtkgfaemdgmmdkaaGreatDoorGxBld
namespace Go.Proofs.YtkgfaemdgmmdkaaGreatDoor.Gx
open Go.Proofs.YtkgfaemdgmmdkaaGreatDoor
open Go.RowKit
attribute [local go_sem] After.cell After.frozen After.lt After.le After.ne After.ne' After.set_eq After.size_set After.lt_add tx_size tx_toList

theorem after_ip {W W' : World} (h : Below W.heap.size W W') : ∃ y : After W, W' = y.w := ⟨⟨W', h⟩, rfl⟩
/-- Where a list of items lies. -/
def IAt (W : World) (a : Option Addr) (ps : List It) : Prop := ItAt W a ps.length (iM ps) (iL ps) (iD ps) (iB ps)
theorem IAt.on {w W : World} {a : Option Addr} {ps : List It} (h : IAt w a ps) (hb : Below w.heap.size w W) : IAt W a ps := ItAt.on h hb
def ShI (ps : List It) : Prop := Sht ps.length (iM ps) ∧ Sht ps.length (iB ps)
theorem goodI_sh {ps : List It} (h : GoodI ps) : ShI ps := by
  refine ⟨fun k hk => ?_, fun k hk => ?_⟩
  all_goals
    obtain ⟨_, _, h3, h4, _⟩ := ok_facts (goodI_at h (get_it ps hk))
    first | (show (ps.getD k it0).1.length ≤ 9223372036854775807; omega) | (show (ps.getD k it0).2.2.2.length ≤ 9223372036854775807; omega)
theorem shI_snoc {ps : List It} {p : It} (h : ShI ps) (h1 : p.1.length ≤ 9223372036854775807) (h2 : p.2.2.2.length ≤ 9223372036854775807) : ShI (ps ++ [p]) := by
  have key : ∀ k, k < (ps ++ [p]).length → (k < ps.length ∧ (ps ++ [p]).getD k it0 = ps.getD k it0) ∨ (ps ++ [p]).getD k it0 = p := fun k hk => by
    rw [List.length_append, List.length_singleton] at hk
    rcases Nat.lt_or_ge k ps.length with h | h
    · exact .inl ⟨h, by rw [List.getD_eq_getElem?_getD, List.getD_eq_getElem?_getD, List.getElem?_append_left h]⟩
    · obtain rfl : k = ps.length := by omega
      exact .inr (by rw [List.getD_eq_getElem?_getD]; simp)
  refine ⟨fun k hk => ?_, fun k hk => ?_⟩
  · unfold iM
    rcases key k hk with ⟨h3, e⟩ | e
    · rw [e]; exact h.1 k h3
    · rw [e]; exact h1
  · unfold iB
    rcases key k hk with ⟨h3, e⟩ | e
    · rw [e]; exact h.2 k h3
    · rw [e]; exact h2
/-- The cells of a list of items. -/
def icv (ps : List It) : List Value := ps.flatMap fun p => [.string (tx p.1), .int .i64 p.2.1, .int .i64 p.2.2.1, .string (tx p.2.2.2)]
theorem icv_snoc (ps : List It) (p : It) : icv (ps ++ [p]) = icv ps ++ [.string (tx p.1), .int .i64 p.2.1, .int .i64 p.2.2.1, .string (tx p.2.2.2)] := by simp [icv]
theorem icv_get : ∀ (ps : List It) (k : Nat), k < ps.length → (icv ps)[k * 4]? = some (.string (tx (iM ps k))) ∧ (icv ps)[k * 4 + 1]? = some (.int .i64 (iL ps k)) ∧ (icv ps)[k * 4 + 2]? = some (.int .i64 (iD ps k)) ∧ (icv ps)[k * 4 + 3]? = some (.string (tx (iB ps k)))
  | p :: ps, 0, _ => ⟨rfl, rfl, rfl, rfl⟩
  | p :: ps, k + 1, h => by
    have ih := icv_get ps k (by simpa using h)
    have e : icv (p :: ps) = .string (tx p.1) :: .int .i64 p.2.1 :: .int .i64 p.2.2.1 :: .string (tx p.2.2.2) :: icv ps := rfl
    have s : ∀ c, (icv (p :: ps))[(k + 1) * 4 + c]? = (icv ps)[k * 4 + c]? := fun c => by
      rw [e, show (k + 1) * 4 + c = k * 4 + c + 1 + 1 + 1 + 1 by omega]
      simp only [List.getElem?_cons_succ]
    have s0 := s 0
    have s1 := s 1
    have s2 := s 2
    have s3 := s 3
    simp only [Nat.add_zero] at s0
    rw [s0, s1, s2, s3]
    exact ih
theorem iat_row {W : World} {B : Nat} {v : Value} {ps : List It} (h : W.ownsRow B 33 4 v ps.length (icv ps)) : ∃ a cap, v = .slice a ps.length cap ∧ ps.length ≤ cap ∧ IAt W a ps := by
  rcases Nat.eq_zero_or_pos ps.length with h0 | h0
  · have hz : IAt W none ps ∧ ∀ a, IAt W a ps := ⟨fun k hk => absurd hk (by omega), fun a k hk => absurd hk (by omega)⟩
    have h' := h
    rw [h0] at h'
    rcases Go.Joins.ownsRow_forms h' with ⟨rfl, _⟩ | ⟨g, c, rfl⟩
    · exact ⟨_, _, by rw [h0], by omega, hz.2 _⟩
    · exact ⟨_, _, by rw [h0], by omega, hz.2 _⟩
  · obtain ⟨g, cap, rfl⟩ := Go.Joins.ownsRow_form h h0
    have hl := (h.lt g rfl).2
    refine ⟨_, _, rfl, ?_, fun k hk => ?_⟩
    · obtain ⟨_, h2 | ⟨g', cap', cur, e, _, _, h3, _⟩⟩ := h
      · cases h2.1
      · cases e; omega
    obtain ⟨c0, c1, c2, c3⟩ := icv_get ps k hk
    refine ⟨g, 0, rfl, hl, ?_, ?_, ?_, ?_⟩
    · rw [Nat.zero_add, h.cellAt _ (by omega)]; exact c0
    · rw [Nat.zero_add, h.cellAt _ (by omega)]; exact c1
    · rw [Nat.zero_add, h.cellAt _ (by omega)]; exact c2
    · rw [Nat.zero_add, h.cellAt _ (by omega)]; exact c3
theorem it_sum (p : It) : ((((((p.1 ++ [32]) ++ Lib.itoa p.2.1) ++ [32]) ++ Lib.itoa p.2.2.1) ++ [32]) ++ p.2.2.2) ++ [10] = itL p ++ [10] := by simp [itL, joinW]
set_option maxRecDepth 100000 in
set_option maxHeartbeats 2000000 in
theorem writeItem_any (p : It) (w : World) (hp : I64 p.2.1 ∧ I64 p.2.2.1) (hn : p.1.length ≤ 65536 ∧ p.2.2.2.length ≤ 65536) (hS : Std w) :
    Calls Tryz.prog 18 #[.agg #[.string (tx p.1), .int .i64 p.2.1, .int .i64 p.2.2.1, .string (tx p.2.2.2)]] w fun e w' => e = .returned (.string (tx (itL p ++ [10]))) ∧ Below w.heap.size w w' := by
  have HS := Lib.hid hS
  have HL := it_sum p
  have J0 := Lib.hid (fun (V : World) (hV : Below w.heap.size w V) => itoa_any hp.1 (HS.out.on hV))
  have J1 := Lib.hid (fun (V : World) (hV : Below w.heap.size w V) => itoa_any hp.2 (HS.out.on hV))
  have q0 : (Lib.itoa p.2.1).length ≤ 20 := itoa_l20 hp.1
  have q1 : (Lib.itoa p.2.2.1).length ≤ 20 := itoa_l20 hp.2
  obtain ⟨n1, n2⟩ := hn
  clear hp hS
  obtain ⟨m, l, d, b⟩ := p
  simp only at J0 J1 q0 q1 HL n1 n2 ⊢
  generalize Lib.itoa l = s0 at *
  generalize Lib.itoa d = s1 at *
  generalize itL (m, l, d, b) ++ [10] = R at *
  have e32 : (⟨#[32]⟩ : ByteArray) = tx [32] := rfl
  have e10 : (⟨#[10]⟩ : ByteArray) = tx [10] := rfl
  have a1 : ∀ w : World, (Op.stringOp .add (tx m) (tx [32])).run Tryz.prog w = .ok (.string (tx (m ++ [32]))) w := fun w => run_tx_add w _ _ (by omega) (by simp)
  have l1 : (m ++ [32]).length ≤ 70000 := by simp; omega
  generalize m ++ [32] = u1 at *
  have a2 : ∀ w : World, (Op.stringOp .add (tx u1) (tx s0)).run Tryz.prog w = .ok (.string (tx (u1 ++ s0))) w := fun w => run_tx_add w _ _ (by omega) (by omega)
  have l2 : (u1 ++ s0).length ≤ 70020 := by simp; omega
  generalize u1 ++ s0 = u2 at *
  have a3 : ∀ w : World, (Op.stringOp .add (tx u2) (tx [32])).run Tryz.prog w = .ok (.string (tx (u2 ++ [32]))) w := fun w => run_tx_add w _ _ (by omega) (by simp)
  have l3 : (u2 ++ [32]).length ≤ 70021 := by simp; omega
  generalize u2 ++ [32] = u3 at *
  have a4 : ∀ w : World, (Op.stringOp .add (tx u3) (tx s1)).run Tryz.prog w = .ok (.string (tx (u3 ++ s1))) w := fun w => run_tx_add w _ _ (by omega) (by omega)
  have l4 : (u3 ++ s1).length ≤ 70041 := by simp; omega
  generalize u3 ++ s1 = u4 at *
  have a5 : ∀ w : World, (Op.stringOp .add (tx u4) (tx [32])).run Tryz.prog w = .ok (.string (tx (u4 ++ [32]))) w := fun w => run_tx_add w _ _ (by omega) (by simp)
  have l5 : (u4 ++ [32]).length ≤ 70042 := by simp; omega
  generalize u4 ++ [32] = u5 at *
  have a6 : ∀ w : World, (Op.stringOp .add (tx u5) (tx b)).run Tryz.prog w = .ok (.string (tx (u5 ++ b))) w := fun w => run_tx_add w _ _ (by omega) (by omega)
  have l6 : (u5 ++ b).length ≤ 140000 := by simp; omega
  generalize u5 ++ b = u6 at *
  have a7 : ∀ w : World, (Op.stringOp .add (tx u6) (tx [10])).run Tryz.prog w = .ok (.string (tx (u6 ++ [10]))) w := fun w => run_tx_add w _ _ (by omega) (by simp)
  rw [HL] at a7
  clear HL l1 l2 l3 l4 l5 l6
  go_enter Tryz.func18, Tryz.ntmps18
  go_wp2
  refine wp_region_after (by kernel_rfl) (by kernel_rfl) ?_; (repeat (first | go_big_quiet_step ((go_at_call 36; first | with_reducible exact quiet_after (J0.out _ (by (repeat' (first | (with_reducible exact Below.refl _ _) | (with_reducible assumption) | (with_reducible refine Below.alloc ?_ ?_ _) | (with_reducible refine Below.drew ?_) | (with_reducible refine below_drewN ?_ _) | (with_reducible refine Below.setCell ?_ ?_ _) | (with_reducible refine below_after ?_ ?_ _) | (with_reducible refine below_set ?_) | (with_reducible refine After.size_le _ ?_) | (with_reducible refine size_alloc_le ?_) | (with_reducible refine size_set_le ?_) | (with_reducible refine size_drewN_le ?_) | go_size)))) | with_reducible exact quiet_after (J1.out _ (by (repeat' (first | (with_reducible exact Below.refl _ _) | (with_reducible assumption) | (with_reducible refine Below.alloc ?_ ?_ _) | (with_reducible refine Below.drew ?_) | (with_reducible refine below_drewN ?_ _) | (with_reducible refine Below.setCell ?_ ?_ _) | (with_reducible refine below_after ?_ ?_ _) | (with_reducible refine below_set ?_) | (with_reducible refine After.size_le _ ?_) | (with_reducible refine size_alloc_le ?_) | (with_reducible refine size_set_le ?_) | (with_reducible refine size_drewN_le ?_) | go_size)))))) | (refine wpQuiet_step (fun K hK => ?_); go_simp; first | (refine hK _ ?_; clear hK K) | (apply Exists.intro; refine ⟨fun x => ?_, hK _ ?_⟩; (go_at_call 36; first | with_reducible exact quiet_after (J0.out _ (by (repeat' (first | (with_reducible exact Below.refl _ _) | (with_reducible assumption) | (with_reducible refine Below.alloc ?_ ?_ _) | (with_reducible refine Below.drew ?_) | (with_reducible refine below_drewN ?_ _) | (with_reducible refine Below.setCell ?_ ?_ _) | (with_reducible refine below_after ?_ ?_ _) | (with_reducible refine below_set ?_) | (with_reducible refine After.size_le _ ?_) | (with_reducible refine size_alloc_le ?_) | (with_reducible refine size_set_le ?_) | (with_reducible refine size_drewN_le ?_) | go_size)))) | with_reducible exact quiet_after (J1.out _ (by (repeat' (first | (with_reducible exact Below.refl _ _) | (with_reducible assumption) | (with_reducible refine Below.alloc ?_ ?_ _) | (with_reducible refine Below.drew ?_) | (with_reducible refine below_drewN ?_ _) | (with_reducible refine Below.setCell ?_ ?_ _) | (with_reducible refine below_after ?_ ?_ _) | (with_reducible refine below_set ?_) | (with_reducible refine After.size_le _ ?_) | (with_reducible refine size_alloc_le ?_) | (with_reducible refine size_set_le ?_) | (with_reducible refine size_drewN_le ?_) | go_size))))); clear hK K)))); refine wpQuiet_nil ?_
  intro y
  go_wp2
  go_ret
  exact ⟨rfl, by (repeat' (first | (with_reducible exact Below.refl _ _) | (with_reducible assumption) | (with_reducible refine Below.alloc ?_ ?_ _) | (with_reducible refine Below.drew ?_) | (with_reducible refine below_drewN ?_ _) | (with_reducible refine Below.setCell ?_ ?_ _) | (with_reducible refine below_after ?_ ?_ _) | (with_reducible refine below_set ?_) | (with_reducible refine After.size_le _ ?_) | (with_reducible refine size_alloc_le ?_) | (with_reducible refine size_set_le ?_) | (with_reducible refine size_drewN_le ?_) | go_size))⟩
theorem formatI_bad (v : Value) (w : World) (hv : ∀ W, Below w.heap.size w W → Calls Tryz.prog 16 #[v] W fun e w' => e = .returned (.bool false) ∧ Below W.heap.size W w') :
    Calls Tryz.prog 6 #[v] w fun e w' => e = .returned (.string (tx [])) ∧ Below w.heap.size w w' := by
  have HV := Lib.hid hv
  have e0 : (⟨#[]⟩ : ByteArray) = tx [] := rfl
  clear hv
  go_enter Tryz.func6, Tryz.ntmps6
  go_wp2_with fail
  refine (HV.out _ (by (repeat' (first | (with_reducible exact Below.refl _ _) | (with_reducible assumption) | (with_reducible refine Below.alloc ?_ ?_ _) | (with_reducible refine Below.drew ?_) | (with_reducible refine below_drewN ?_ _) | (with_reducible refine Below.setCell ?_ ?_ _) | (with_reducible refine below_after ?_ ?_ _) | (with_reducible refine below_set ?_) | (with_reducible refine After.size_le _ ?_) | (with_reducible refine size_alloc_le ?_) | (with_reducible refine size_set_le ?_) | (with_reducible refine size_drewN_le ?_) | go_size)))).mono ?_
  rintro e0 w1 ⟨rfl, hb1⟩
  go_wp2
  go_ret
  exact ⟨rfl, by (repeat' (first | (with_reducible exact Below.refl _ _) | (with_reducible assumption) | (with_reducible refine Below.alloc ?_ ?_ _) | (with_reducible refine Below.drew ?_) | (with_reducible refine below_drewN ?_ _) | (with_reducible refine Below.setCell ?_ ?_ _) | (with_reducible refine below_after ?_ ?_ _) | (with_reducible refine below_set ?_) | (with_reducible refine After.size_le _ ?_) | (with_reducible refine size_alloc_le ?_) | (with_reducible refine size_set_le ?_) | (with_reducible refine size_drewN_le ?_) | go_size))⟩
theorem rformatI_bad (v : Value) (w : World) (hv : ∀ W, Below w.heap.size w W → Calls Tryz.prog 11 #[v] W fun e w' => e = .returned (.bool false) ∧ Below W.heap.size W w') :
    Calls Tryz.prog 9 #[v] w fun e w' => e = .returned (.string (tx [])) ∧ Below w.heap.size w w' := by
  have HV := Lib.hid hv
  have e0 : (⟨#[]⟩ : ByteArray) = tx [] := rfl
  clear hv
  go_enter Tryz.func9, Tryz.ntmps9
  go_wp2_with fail
  refine (HV.out _ (by (repeat' (first | (with_reducible exact Below.refl _ _) | (with_reducible assumption) | (with_reducible refine Below.alloc ?_ ?_ _) | (with_reducible refine Below.drew ?_) | (with_reducible refine below_drewN ?_ _) | (with_reducible refine Below.setCell ?_ ?_ _) | (with_reducible refine below_after ?_ ?_ _) | (with_reducible refine below_set ?_) | (with_reducible refine After.size_le _ ?_) | (with_reducible refine size_alloc_le ?_) | (with_reducible refine size_set_le ?_) | (with_reducible refine size_drewN_le ?_) | go_size)))).mono ?_
  rintro e0 w1 ⟨rfl, hb1⟩
  go_wp2
  go_ret
  exact ⟨rfl, by (repeat' (first | (with_reducible exact Below.refl _ _) | (with_reducible assumption) | (with_reducible refine Below.alloc ?_ ?_ _) | (with_reducible refine Below.drew ?_) | (with_reducible refine below_drewN ?_ _) | (with_reducible refine Below.setCell ?_ ?_ _) | (with_reducible refine below_after ?_ ?_ _) | (with_reducible refine below_set ?_) | (with_reducible refine After.size_le _ ?_) | (with_reducible refine size_alloc_le ?_) | (with_reducible refine size_set_le ?_) | (with_reducible refine size_drewN_le ?_) | go_size))⟩
section
variable {w : World} {a : Option Addr} {cap : Nat} {ps : List It} (hA : IAt w a ps) (hn : ps.length ≤ 1000) (hsh : ShI ps)
include hA hn hsh
theorem valid_i : ∀ W, Below w.heap.size w W → Calls Tryz.prog 16 #[.slice a ps.length cap] W fun e w' => e = .returned (.bool (gB ps)) ∧ Below W.heap.size W w' := fun W hW =>
  valid_say a ps.length cap (iM ps) (iL ps) (iD ps) (iB ps) W (hA.on hW) hn hsh.1 hsh.2
theorem rvalid_i : ∀ W, Below w.heap.size w W → Calls Tryz.prog 11 #[.slice a ps.length cap] W fun e w' => e = .returned (.bool (gB ps)) ∧ Below W.heap.size W w' := fun W hW =>
  rvalid_any a ps.length cap (iM ps) (iL ps) (iD ps) (iB ps) W (hA.on hW) hn hsh.1 hsh.2
end
set_option maxRecDepth 1000000 in
set_option maxHeartbeats 2000000 in
theorem formatI_ok (a : Option Addr) (cap : Nat) (ps : List It) (w : World) (hA : IAt w a ps) (hG : GoodI ps) (hS : Std w) :
    Calls Tryz.prog 6 #[.slice a ps.length cap] w fun e w' => e = .returned (.string (tx (formI ps))) ∧ Below w.heap.size w w' := by
  have HV := Lib.hid (valid_i (cap := cap) hA (by have := hG.1; omega) (goodI_sh hG))
  rw [gB_good.2 hG] at HV
  have HC := Lib.hid hA
  have HI : Hid (∀ k, k < ps.length → (I64 (iL ps k) ∧ I64 (iD ps k)) ∧ ((iM ps k).length ≤ 65536 ∧ (iB ps k).length ≤ 65536) ∧ (itL (iM ps k, iL ps k, iD ps k, iB ps k)).length ≤ 75) := Lib.hid fun k hk => by
    obtain ⟨h1, _, h3, h4, _⟩ := ok_facts (goodI_at hG (get_it ps hk))
    have := it_len h1.2
    unfold iM iL iD iB
    exact ⟨h1.2, ⟨by omega, by omega⟩, by show (itL (ps.getD k it0)).length ≤ 75; omega⟩
  have HF : Hid (∀ k, k < ps.length → formI (ps.take (k + 1)) = formI (ps.take k) ++ (itL (iM ps k, iL ps k, iD ps k, iB ps k) ++ [10])) := Lib.hid fun k hk => formI_next ps hk
  have HS := Lib.hid (fun W (hW : Below w.heap.size w W) => hS.on hW)
  have hn5 : (ps.length : Int) ≤ 64 := by have := hG.1; omega
  clear hA hG hS
  go_enter Tryz.func6, Tryz.ntmps6
  go_wp2_with fail
  refine (HV.out _ (by (repeat' (first | (with_reducible exact Below.refl _ _) | (with_reducible assumption) | (with_reducible refine Below.alloc ?_ ?_ _) | (with_reducible refine Below.drew ?_) | (with_reducible refine below_drewN ?_ _) | (with_reducible refine Below.setCell ?_ ?_ _) | (with_reducible refine below_after ?_ ?_ _) | (with_reducible refine below_set ?_) | (with_reducible refine After.size_le _ ?_) | (with_reducible refine size_alloc_le ?_) | (with_reducible refine size_set_le ?_) | (with_reducible refine size_drewN_le ?_) | go_size)))).mono ?_
  rintro e0 w1 ⟨rfl, hb1⟩
  obtain ⟨x1, rfl⟩ := after_ip hb1
  clear hb1
  go_wp2
  go_loopw [11] (fun i wr => ∃ k : Nat, k ≤ ps.length ∧ i = .int .i64 k ∧ ∃ x : After w, wr = x.w ∧ Hid (Bld w.heap.size x1.w.heap.size (formI (ps.take k)) x.w ∧ (formI (ps.take k)).length ≤ k * 76)) (fun i _ => ps.length - (intOf i).toNat)
  case atStart =>
    refine ⟨0, by omega, rfl, ⟨_, (Below.alloc x1.out x1.out.size _)⟩, rfl, Lib.hid ⟨?_, by simp [formI]⟩⟩
    exact .inl ⟨x1.out.size, .slice none 0 0, heap_alloc_new x1.w _, World.ownsRow_nil _ _ _ _, by simp [Value.ownBlock]⟩
  case round =>
    obtain ⟨k, hk, rfl, x, rfl, HB⟩ := hrel
    by_cases hlt : k < ps.length
    · obtain ⟨b, off, rfl, hb, c0, c1, c2, c3⟩ := (HC.out.on x.out) k hlt
      obtain ⟨hM, hN, hL⟩ := HI.out k hlt
      have HT := Lib.hid (HF.out k hlt)
      have hkn : (k : Int) < (ps.length : Int) := by omega
      have J0 := Lib.hid (fun (V : World) (hV : Below w.heap.size w V) => writeItem_any (iM ps k, iL ps k, iD ps k, iB ps k) V hM hN (HS.out V hV))
      clear hM hN
      simp only at J0
      generalize iM ps k = z0 at *
      generalize iL ps k = z1 at *
      generalize iD ps k = z2 at *
      generalize iB ps k = z3 at *
      have hlen : (itL (z0, z1, z2, z3) ++ [10]).length ≤ 76 := by simp; omega
      generalize itL (z0, z1, z2, z3) ++ [10] = u1 at *
      go_wp2_with fail
      refine (J0.out _ (by (repeat' (first | (with_reducible exact Below.refl _ _) | (with_reducible assumption) | (with_reducible refine Below.alloc ?_ ?_ _) | (with_reducible refine Below.drew ?_) | (with_reducible refine below_drewN ?_ _) | (with_reducible refine Below.setCell ?_ ?_ _) | (with_reducible refine below_after ?_ ?_ _) | (with_reducible refine below_set ?_) | (with_reducible refine After.size_le _ ?_) | (with_reducible refine size_alloc_le ?_) | (with_reducible refine size_set_le ?_) | (with_reducible refine size_drewN_le ?_) | go_size)))).mono ?_
      rintro e1 w1 ⟨rfl, hb1⟩
      have hBy : Below x.w.heap.size x.w w1 := Below.trans (by (repeat' (first | (with_reducible exact Nat.le_refl _) | (with_reducible exact Below.refl _ _) | (with_reducible assumption) | (with_reducible refine Below.alloc ?_ ?_ _) | (with_reducible refine Below.drew ?_) | (with_reducible refine below_drewN ?_ _) | (with_reducible refine Below.setCell ?_ ?_ _) | (with_reducible refine below_after ?_ ?_ _) | (with_reducible refine below_set ?_) | (with_reducible refine After.size_le _ ?_) | (with_reducible refine size_alloc_le ?_) | (with_reducible refine size_set_le ?_) | (with_reducible refine size_drewN_le ?_) | go_size))) (hb1.mono (by simp))
      have HB' := Lib.hid (HB.out.1.on hBy)
      obtain ⟨y, rfl⟩ := after_ip (x.out.trans (hBy.mono x.out.size))
      clear hb1 hBy
      go_wp2_with fail
      refine (write_any u1 HB'.out (by have := HB.out.2; omega) y.out.size).mono ?_
      rintro e5 w5 ⟨rfl, hB5, hb5⟩
      have hB6 : Hid (Bld w.heap.size x1.w.heap.size (formI (ps.take (k + 1))) w5 ∧ (formI (ps.take (k + 1))).length ≤ (k + 1) * 76) := Lib.hid (by
        have h1 := HT.out
        have h2 := HB.out.2
        rw [h1]
        exact ⟨hB5, by simp only [List.length_append]; omega⟩)
      have hx5 : Below w.heap.size w w5 := y.out.trans hb5
      obtain ⟨x5, rfl⟩ := after_ip hx5
      clear hx5 hb5 hB5
      go_wp2
      go_roundw
      case rel => exact ⟨k + 1, by omega, by go_num, x5, rfl, hB6⟩
      case measure => simp [intOf]; omega
    · obtain rfl : k = ps.length := by omega
      have HB2 : Hid (Bld w.heap.size x1.w.heap.size (formI ps) x.w) := Lib.hid (by have := HB.out.1; rwa [List.take_length] at this)
      go_wp2_with (go_at_call 19; refine (string_any HB2.out x.out.size).mono ?_; rintro e w5 ⟨rfl, hb5⟩)
      go_ret
      exact ⟨rfl, x.out.trans hb5⟩
end Go.Proofs.YtkgfaemdgmmdkaaGreatDoor.Gx
