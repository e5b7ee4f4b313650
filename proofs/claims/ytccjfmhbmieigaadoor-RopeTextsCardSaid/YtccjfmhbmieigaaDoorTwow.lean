/- The program's writeUse; Format of uses in both programs. -/
import Derived.Test.YtccjfmhbmieigaaDoorTwop
import Derived.Test.YtccjfmhbmieigaaDoorBld
namespace Go.Proofs.YtccjfmhbmieigaaDoor
open Go.RowKit Ro
attribute [local go_sem] After.cell After.frozen After.lt After.le After.ne After.ne' After.set_eq After.size_set After.lt_add tx_size tx_toList

def I2 (p : Int × Int) : Prop := I64 p.1 ∧ I64 p.2
theorem In2.i2 {p : Int × Int} (h : In2 p) : I2 p := by unfold In2 In18 at h; unfold I2 I64; omega
theorem use_sum (p : Int × Int) : ((Lib.itoa p.1 ++ [32]) ++ Lib.itoa p.2) ++ [10] = useL p ++ [10] := by simp [useL, joinW]
set_option maxRecDepth 100000 in
set_option maxHeartbeats 1000000 in
theorem writeUse_any (p : Int × Int) (w : World) (hp : I2 p) (hS : Std w) :
    Calls Tryd.prog 36 #[.agg #[.int .i64 p.1, .int .i64 p.2]] w fun e w' => e = .returned (.string (tx (useL p ++ [10]))) ∧ Below w.heap.size w w' := by
  have HS := Lib.hid hS
  have HL := Lib.hid (use_sum p)
  have J0 := Lib.hid (fun (V : World) (hV : Below w.heap.size w V) => itoa_any hp.1 (HS.out.on hV))
  have J1 := Lib.hid (fun (V : World) (hV : Below w.heap.size w V) => itoa_any hp.2 (HS.out.on hV))
  have q0 : (Lib.itoa p.1).length ≤ 20 := itoa_len hp.1.1 hp.1.2
  have q1 : (Lib.itoa p.2).length ≤ 20 := itoa_len hp.2.1 hp.2.2
  clear hp hS
  obtain ⟨d, l⟩ := p
  simp only at J0 J1 q0 q1 HL ⊢
  generalize Lib.itoa d = s0 at *
  generalize Lib.itoa l = s1 at *
  generalize useL (d, l) ++ [10] = R at *
  have e32 : (⟨#[32]⟩ : ByteArray) = tx [32] := rfl
  have e10 : (⟨#[10]⟩ : ByteArray) = tx [10] := rfl
  have a1 : ∀ w : World, (Op.stringOp .add (tx s0) (tx [32])).run Tryd.prog w = .ok (.string (tx (s0 ++ [32]))) w := fun w => run_tx_add w _ _ (by omega) (by simp)
  have a2 : ∀ w : World, (Op.stringOp .add (tx (s0 ++ [32])) (tx s1)).run Tryd.prog w = .ok (.string (tx ((s0 ++ [32]) ++ s1))) w := fun w => run_tx_add w _ _ (by simp; omega) (by omega)
  have a3 : ∀ w : World, (Op.stringOp .add (tx ((s0 ++ [32]) ++ s1)) (tx [10])).run Tryd.prog w = .ok (.string (tx (((s0 ++ [32]) ++ s1) ++ [10]))) w := fun w => run_tx_add w _ _ (by simp; omega) (by simp)
  have HL' := HL.out
  clear HL
  generalize s0 ++ [32] = u1 at *
  generalize u1 ++ s1 = u2 at *
  rw [HL'] at a3
  clear HL'
  go_enter Tryd.func36, Tryd.ntmps36
  go_wp2
  refine wp_region_after (by kernel_rfl) (by kernel_rfl) ?_; (repeat (first | go_big_quiet_step ((go_at_call 54; first | with_reducible exact quiet_after (J0.out _ (by (repeat' (first | (with_reducible exact Below.refl _ _) | (with_reducible assumption) | (with_reducible refine Below.alloc ?_ ?_ _) | (with_reducible refine Below.drew ?_) | (with_reducible refine below_drewN ?_ _) | (with_reducible refine Below.setCell ?_ ?_ _) | (with_reducible refine below_after ?_ ?_ _) | (with_reducible refine below_set ?_) | (with_reducible refine After.size_le _ ?_) | (with_reducible refine size_alloc_le ?_) | (with_reducible refine size_set_le ?_) | (with_reducible refine size_drewN_le ?_) | go_size)))) | with_reducible exact quiet_after (J1.out _ (by (repeat' (first | (with_reducible exact Below.refl _ _) | (with_reducible assumption) | (with_reducible refine Below.alloc ?_ ?_ _) | (with_reducible refine Below.drew ?_) | (with_reducible refine below_drewN ?_ _) | (with_reducible refine Below.setCell ?_ ?_ _) | (with_reducible refine below_after ?_ ?_ _) | (with_reducible refine below_set ?_) | (with_reducible refine After.size_le _ ?_) | (with_reducible refine size_alloc_le ?_) | (with_reducible refine size_set_le ?_) | (with_reducible refine size_drewN_le ?_) | go_size)))))) | (refine wpQuiet_step (fun K hK => ?_); go_simp; first | (refine hK _ ?_; clear hK K) | (apply Exists.intro; refine ⟨fun x => ?_, hK _ ?_⟩; (go_at_call 54; first | with_reducible exact quiet_after (J0.out _ (by (repeat' (first | (with_reducible exact Below.refl _ _) | (with_reducible assumption) | (with_reducible refine Below.alloc ?_ ?_ _) | (with_reducible refine Below.drew ?_) | (with_reducible refine below_drewN ?_ _) | (with_reducible refine Below.setCell ?_ ?_ _) | (with_reducible refine below_after ?_ ?_ _) | (with_reducible refine below_set ?_) | (with_reducible refine After.size_le _ ?_) | (with_reducible refine size_alloc_le ?_) | (with_reducible refine size_set_le ?_) | (with_reducible refine size_drewN_le ?_) | go_size)))) | with_reducible exact quiet_after (J1.out _ (by (repeat' (first | (with_reducible exact Below.refl _ _) | (with_reducible assumption) | (with_reducible refine Below.alloc ?_ ?_ _) | (with_reducible refine Below.drew ?_) | (with_reducible refine below_drewN ?_ _) | (with_reducible refine Below.setCell ?_ ?_ _) | (with_reducible refine below_after ?_ ?_ _) | (with_reducible refine below_set ?_) | (with_reducible refine After.size_le _ ?_) | (with_reducible refine size_alloc_le ?_) | (with_reducible refine size_set_le ?_) | (with_reducible refine size_drewN_le ?_) | go_size))))); clear hK K)))); refine wpQuiet_nil ?_
  intro y
  go_wp2
  go_ret
  exact ⟨rfl, by (repeat' (first | (with_reducible exact Below.refl _ _) | (with_reducible assumption) | (with_reducible refine Below.alloc ?_ ?_ _) | (with_reducible refine Below.drew ?_) | (with_reducible refine below_drewN ?_ _) | (with_reducible refine Below.setCell ?_ ?_ _) | (with_reducible refine below_after ?_ ?_ _) | (with_reducible refine below_set ?_) | (with_reducible refine After.size_le _ ?_) | (with_reducible refine size_alloc_le ?_) | (with_reducible refine size_set_le ?_) | (with_reducible refine size_drewN_le ?_) | go_size))⟩

theorem formatU_bad (v : Value) (w : World) (hv : ∀ W, Below w.heap.size w W → Calls Tryd.prog 35 #[v] W fun e w' => e = .returned (.bool false) ∧ Below W.heap.size W w') :
    Calls Tryd.prog 15 #[v] w fun e w' => e = .returned (.string (tx [])) ∧ Below w.heap.size w w' := by
  have HV := Lib.hid hv
  have e0 : (⟨#[]⟩ : ByteArray) = tx [] := rfl
  clear hv
  go_enter Tryd.func15, Tryd.ntmps15
  go_wp2_with fail
  refine (HV.out _ (by (repeat' (first | (with_reducible exact Below.refl _ _) | (with_reducible assumption) | (with_reducible refine Below.alloc ?_ ?_ _) | (with_reducible refine Below.drew ?_) | (with_reducible refine below_drewN ?_ _) | (with_reducible refine Below.setCell ?_ ?_ _) | (with_reducible refine below_after ?_ ?_ _) | (with_reducible refine below_set ?_) | (with_reducible refine After.size_le _ ?_) | (with_reducible refine size_alloc_le ?_) | (with_reducible refine size_set_le ?_) | (with_reducible refine size_drewN_le ?_) | go_size)))).mono ?_
  rintro e0 w1 ⟨rfl, hb1⟩
  go_wp2
  go_ret
  exact ⟨rfl, by (repeat' (first | (with_reducible exact Below.refl _ _) | (with_reducible assumption) | (with_reducible refine Below.alloc ?_ ?_ _) | (with_reducible refine Below.drew ?_) | (with_reducible refine below_drewN ?_ _) | (with_reducible refine Below.setCell ?_ ?_ _) | (with_reducible refine below_after ?_ ?_ _) | (with_reducible refine below_set ?_) | (with_reducible refine After.size_le _ ?_) | (with_reducible refine size_alloc_le ?_) | (with_reducible refine size_set_le ?_) | (with_reducible refine size_drewN_le ?_) | go_size))⟩
theorem rformatU_bad (v : Value) (w : World) (hv : ∀ W, Below w.heap.size w W → Calls Tryd.prog 17 #[v] W fun e w' => e = .returned (.bool false) ∧ Below W.heap.size W w') :
    Calls Tryd.prog 16 #[v] w fun e w' => e = .returned (.string (tx [])) ∧ Below w.heap.size w w' := by
  have HV := Lib.hid hv
  have e0 : (⟨#[]⟩ : ByteArray) = tx [] := rfl
  clear hv
  go_enter Tryd.func16, Tryd.ntmps16
  go_wp2_with fail
  refine (HV.out _ (by (repeat' (first | (with_reducible exact Below.refl _ _) | (with_reducible assumption) | (with_reducible refine Below.alloc ?_ ?_ _) | (with_reducible refine Below.drew ?_) | (with_reducible refine below_drewN ?_ _) | (with_reducible refine Below.setCell ?_ ?_ _) | (with_reducible refine below_after ?_ ?_ _) | (with_reducible refine below_set ?_) | (with_reducible refine After.size_le _ ?_) | (with_reducible refine size_alloc_le ?_) | (with_reducible refine size_set_le ?_) | (with_reducible refine size_drewN_le ?_) | go_size)))).mono ?_
  rintro e0 w1 ⟨rfl, hb1⟩
  go_wp2
  go_ret
  exact ⟨rfl, by (repeat' (first | (with_reducible exact Below.refl _ _) | (with_reducible assumption) | (with_reducible refine Below.alloc ?_ ?_ _) | (with_reducible refine Below.drew ?_) | (with_reducible refine below_drewN ?_ _) | (with_reducible refine Below.setCell ?_ ?_ _) | (with_reducible refine below_after ?_ ?_ _) | (with_reducible refine below_set ?_) | (with_reducible refine After.size_le _ ?_) | (with_reducible refine size_alloc_le ?_) | (with_reducible refine size_set_le ?_) | (with_reducible refine size_drewN_le ?_) | go_size))⟩
theorem get_usAt (ps : List (Int × Int)) {k : Nat} (h : k < ps.length) : ps[k]? = some (ps.getD k (0, 0)) := by
  rw [List.getD_eq_getElem?_getD, List.getElem?_eq_getElem h]; rfl
theorem formU_next (ps : List (Int × Int)) {k : Nat} (h : k < ps.length) : formU (ps.take (k + 1)) = formU (ps.take k) ++ (useL (ps.getD k (0, 0)) ++ [10]) := by
  rw [List.take_add_one, get_usAt ps h]
  exact formU_snoc _ _

set_option maxRecDepth 1000000 in
set_option maxHeartbeats 2000000 in
theorem formatU_ok (v : Value) (ps : List (Int × Int)) (w : World) (hc : Prc w w.heap.size v ps) (hG : GoodU ps) (hS : Std w) :
    Calls Tryd.prog 15 #[v] w fun e w' => e = .returned (.string (tx (formU ps))) ∧ Below w.heap.size w w' := by
  have HV := Lib.hid (fun W (hW : Below w.heap.size w W) => validUses_v v ps W (prc_on hc hW) (by have := hG.1; omega) true (decide_eq_true hG))
  obtain ⟨a, cap, hv⟩ := prc_slice hc
  have HC : Hid (∀ k, k < ps.length → ∃ b off, a = some ⟨b, off, none⟩ ∧ b < w.heap.size ∧ ps.length ≤ cap ∧ ∀ W, Below w.heap.size w W → W.cell? ⟨b, off + k * 2, none⟩ = some (.int .i64 (ps.getD k (0, 0)).1) ∧ W.cell? ⟨b, off + k * 2 + 1, none⟩ = some (.int .i64 (ps.getD k (0, 0)).2)) := Lib.hid fun k hk => by
    rcases hc with ⟨_, rfl⟩ | ⟨_, _, _, _, rfl⟩ | ⟨b, off, cap', e, h0, h1, h2, hb, hcl⟩
    · simp at hk
    · simp at hk
    · rw [hv] at e
      cases e
      exact ⟨b, off, rfl, hb, h1, fun W hW => prCells_on hb hcl hW k hk⟩
  have HI : Hid (∀ k, k < ps.length → I2 (ps.getD k (0, 0))) := Lib.hid fun k hk => (goodU_in2 hG (get_usAt ps hk)).i2
  have HS := Lib.hid (fun W (hW : Below w.heap.size w W) => hS.on hW)
  have hn5 := hG.1
  subst hv
  clear hc hG hS
  go_enter Tryd.func15, Tryd.ntmps15
  go_wp2_with fail
  refine (HV.out _ (by (repeat' (first | (with_reducible exact Below.refl _ _) | (with_reducible assumption) | (with_reducible refine Below.alloc ?_ ?_ _) | (with_reducible refine Below.drew ?_) | (with_reducible refine below_drewN ?_ _) | (with_reducible refine Below.setCell ?_ ?_ _) | (with_reducible refine below_after ?_ ?_ _) | (with_reducible refine below_set ?_) | (with_reducible refine After.size_le _ ?_) | (with_reducible refine size_alloc_le ?_) | (with_reducible refine size_set_le ?_) | (with_reducible refine size_drewN_le ?_) | go_size)))).mono ?_
  rintro e0 w1 ⟨rfl, hb1⟩
  obtain ⟨x1, rfl⟩ := after_of' hb1
  clear hb1
  go_wp2
  go_loopw [11] (fun i wr => ∃ k : Nat, k ≤ ps.length ∧ i = .int .i64 k ∧ ∃ x : After w, wr = x.w ∧ Hid (Bld w.heap.size x1.w.heap.size (formU (ps.take k)) x.w ∧ (formU (ps.take k)).length ≤ k * 42)) (fun i _ => ps.length - (intOf i).toNat)
  case atStart =>
    refine ⟨0, by omega, rfl, ⟨_, (Below.alloc x1.out x1.out.size _)⟩, rfl, Lib.hid ⟨?_, by simp [formU]⟩⟩
    exact .inl ⟨x1.out.size, .slice none 0 0, heap_alloc_new x1.w _, World.ownsRow_nil _ _ _ _, by simp [Value.ownBlock]⟩
  case round =>
    obtain ⟨k, hk, rfl, x, rfl, HB⟩ := hrel
    by_cases hlt : k < ps.length
    · obtain ⟨b, off, rfl, hb, hcap, hcl⟩ := HC.out k hlt
      have hbx := x.size_lt hb
      obtain ⟨c0, c1⟩ := hcl x.w x.out
      have hM := HI.out k hlt
      have HT := Lib.hid (formU_next ps hlt)
      have hrl := use_len (p := ps.getD k (0, 0)) hM.1 hM.2
      have hkn : (k : Int) < (ps.length : Int) := by omega
      have J0 := Lib.hid (fun (V : World) (hV : Below w.heap.size w V) => writeUse_any (ps.getD k (0, 0)) V hM (HS.out V hV))
      clear hM hcl
      generalize ps.getD k (0, 0) = p at *
      obtain ⟨d, l⟩ := p
      simp only at c0 c1 J0
      have hlen : (useL (d, l) ++ [10]).length ≤ 42 := by simp; omega
      generalize useL (d, l) ++ [10] = u1 at *
      go_wp2_with fail
      refine (J0.out _ (by (repeat' (first | (with_reducible exact Below.refl _ _) | (with_reducible assumption) | (with_reducible refine Below.alloc ?_ ?_ _) | (with_reducible refine Below.drew ?_) | (with_reducible refine below_drewN ?_ _) | (with_reducible refine Below.setCell ?_ ?_ _) | (with_reducible refine below_after ?_ ?_ _) | (with_reducible refine below_set ?_) | (with_reducible refine After.size_le _ ?_) | (with_reducible refine size_alloc_le ?_) | (with_reducible refine size_set_le ?_) | (with_reducible refine size_drewN_le ?_) | go_size)))).mono ?_
      rintro e1 w1 ⟨rfl, hb1⟩
      have hBy : Below x.w.heap.size x.w w1 := Below.trans (by (repeat' (first | (with_reducible exact Nat.le_refl _) | (with_reducible exact Below.refl _ _) | (with_reducible assumption) | (with_reducible refine Below.alloc ?_ ?_ _) | (with_reducible refine Below.drew ?_) | (with_reducible refine below_drewN ?_ _) | (with_reducible refine Below.setCell ?_ ?_ _) | (with_reducible refine below_after ?_ ?_ _) | (with_reducible refine below_set ?_) | (with_reducible refine After.size_le _ ?_) | (with_reducible refine size_alloc_le ?_) | (with_reducible refine size_set_le ?_) | (with_reducible refine size_drewN_le ?_) | go_size))) (hb1.mono (by simp))
      have HB' := Lib.hid (HB.out.1.on hBy)
      obtain ⟨y, rfl⟩ := after_of' (x.out.trans (hBy.mono x.out.size))
      clear hb1 hBy
      go_wp2_with fail
      refine (write_any u1 HB'.out (by have := HB.out.2; omega) y.out.size).mono ?_
      rintro e5 w5 ⟨rfl, hB5, hb5⟩
      have hB6 : Hid (Bld w.heap.size x1.w.heap.size (formU (ps.take (k + 1))) w5 ∧ (formU (ps.take (k + 1))).length ≤ (k + 1) * 42) := Lib.hid (by
        have h1 := HT.out
        have h2 := HB.out.2
        rw [h1]
        exact ⟨hB5, by simp only [List.length_append]; omega⟩)
      have hx5 : Below w.heap.size w w5 := y.out.trans hb5
      obtain ⟨x5, rfl⟩ := after_of' hx5
      clear hx5 hb5 hB5
      go_wp2
      go_roundw
      case rel => exact ⟨k + 1, by omega, by go_num, x5, rfl, hB6⟩
      case measure => simp [intOf]; omega
    · obtain rfl : k = ps.length := by omega
      have HB2 : Hid (Bld w.heap.size x1.w.heap.size (formU ps) x.w) := Lib.hid (by have := HB.out.1; rwa [List.take_length] at this)
      go_wp2_with (go_at_call 28; refine (string_any HB2.out x.out.size).mono ?_; rintro e w5 ⟨rfl, hb5⟩)
      go_ret
      exact ⟨rfl, x.out.trans hb5⟩
end Go.Proofs.YtccjfmhbmieigaaDoor
