/- byMark: the program's map of the items by their marks. -/
import Derived.Test.YtkgfaemdgmmdkaaGreatDoorGxGva
namespace Go.Proofs.YtkgfaemdgmmdkaaGreatDoor.Gx
open Go.Proofs.YtkgfaemdgmmdkaaGreatDoor
open Go.RowKit Go.Maps
attribute [local go_sem] After.cell After.frozen After.lt After.le After.ne After.ne' After.set_eq After.size_set After.lt_add tx_size tx_toList

theorem lawS : Keyed Tryz.prog 9 := string_keyed Tryz.underlying9
theorem zeroE (w : World) : (zeroValue 3).run Tryz.prog w = .ok (.int .i64 0) w := by kernel_rfl
theorem run_makeMap_n (n : Nat) (w : World) : (Instr.makeMap 74 (some (.int .i64 n))).run Tryz.prog w = .ok (.map (some w.heap.size)) (w.alloc (.map #[] 0)) := by
  simp [Instr.makeMap, run_underlying Tryz.underlying74, asInt, asIntOf, Result.andThen]
theorem mapOn {H : Type} {P : Program} {k : TypeId} {R : Value → Option (DataW H × List MemPlace)} {w W : World} {b n : Nat} {D : DataW H} (h : w.ownsMap P k R b n D) (hb : Below w.heap.size w W) : W.ownsMap P k R b n D := by
  have hl := h.lt
  obtain ⟨es, clock, h1, F, hs, hD⟩ := h
  exact ⟨es, clock, (hb.block b hl).trans h1, F, hs, hD⟩
/-- What the map holds behind k items. -/
def Dm (gm : Nat → List UInt8) : Nat → DataW Unit
  | 0 => .map []
  | k + 1 => (Dm gm k).put (.string (gm k)) (.lit (.int .i64 (k : Nat)))
abbrev Om (W : World) (B n : Nat) (gm : Nat → List UInt8) : Prop := W.ownsMap Tryz.prog 9 (plainElem Tryz.prog 3) B n (Dm gm n)
theorem dm_isMap (gm : Nat → List UInt8) : ∀ k, IsMap (Dm gm k)
  | 0 => isMap_empty
  | k + 1 => (dm_isMap gm k).put _ _
theorem dm_has (gm : Nat → List UInt8) (m : List UInt8) : ∀ k, Maps.has (Dm gm k) (.string m) = (fdN gm k m).isSome
  | 0 => rfl
  | k + 1 => by
    unfold Dm fdN
    by_cases e : gm k = m
    · subst e
      rw [has_put_same (dm_isMap gm k) (show WideAt.IsKeyLit (.string (gm k)) from trivial)]
      cases fdN gm k (gm k) <;> simp
    · rw [has_put_other (fun h => e (by simpa using h.symm)), dm_has gm m k]
      cases fdN gm k m <;> simp [e]
theorem dm_at {gm : Nat → List UInt8} {m : List UInt8} (z : DataW Unit) : ∀ {k i : Nat}, (∀ i, i < k → ∀ j, j < i → gm j ≠ gm i) → fdN gm k m = some i → (Dm gm k).atKey (.string m) z = .lit (.int .i64 (i : Nat))
  | 0, i, _, h => by cases h
  | k + 1, i, hd, h => by
    obtain ⟨h1, h2, h3⟩ := fdN_some.1 h
    unfold Dm
    by_cases e : gm k = m
    · have hik : i = k := by
        by_cases e2 : i = k
        · exact e2
        · exact absurd (h2.trans e.symm) (hd k (by omega) i (by omega))
      subst hik
      rw [e]
      exact atKey_put_same (dm_isMap gm i) (show WideAt.IsKeyLit (.string m) from trivial) _ _
    · rw [atKey_put_other (fun h => e (by simpa using h.symm))]
      exact dm_at z (fun i hi => hd i (by omega)) (fdN_some.2 ⟨by
        by_cases e2 : i = k
        · subst e2; exact absurd h2 e
        · omega, h2, h3⟩)
theorem key_tx {m : List UInt8} (h : m.length ≤ 9223372036854775807) : keyOf Tryz.prog 9 (.string (tx m)) = some (.string m) := by
  have := WideMaps.keyOf_string_mk (P := Tryz.prog) Tryz.underlying9 (s := tx m) (by rw [tx_size]; unfold maxLen; omega)
  rw [this]; rfl
/-- What byMark answers. -/
def MbR (b : Bool) (n : Nat) (gm : Nat → List UInt8) (w w' : World) (e : Ending) : Prop := match b with
  | true => ∃ B, e = .returned (.tuple #[.map (some B), .bool true]) ∧ w.heap.size ≤ B ∧ Om w' B n gm
  | false => e = .returned (.tuple #[.map none, .bool false])
set_option maxRecDepth 100000 in
set_option maxHeartbeats 4000000 in
theorem byMark_any (a : Option Addr) (n cap : Nat) (gm : Nat → List UInt8) (gl gd : Nat → Int) (gb : Nat → List UInt8) (w : World) (hA : ItAt w a n gm gl gd gb) (hn : n ≤ 1000) (hm : Sht n gm) (hb : Sht n gb) :
    Calls Tryz.prog 34 #[.slice a n cap] w fun e w' => MbR (vgB n gm gl gd gb) n gm w w' e ∧ Below w.heap.size w w' := by
  have hnI : (n : Int) ≤ 1000 := by omega
  have HA := Lib.hid hA
  have HM := Lib.hid (And.intro hm hb)
  have hmm := run_makeMap_n n
  clear hA hm hb hn
  by_cases h64 : (64 : Int) < (n : Int)
  · have HQ := Lib.hid (vg_many (gm := gm) (gl := gl) (gd := gd) (gb := gb) (n := n) (by omega))
    go_enter Tryz.func34, Tryz.ntmps34
    go_wp2
    go_returns
    exact ⟨by rw [HQ.out]; rfl, Below.refl _ _⟩
  · have hn64 := Lib.hid (show n ≤ 64 by omega)
    go_enter Tryz.func34, Tryz.ntmps34
    go_wp2
    go_loopw [2, 4, 5, 6, 7, 16] (fun v _ _ _ _ i W => ∃ k : Nat, k ≤ n ∧ i = .int .i64 k ∧ v = .map (some w.heap.size) ∧ Hid (VgT k gm gl gd gb) ∧ Hid (Om W w.heap.size k gm) ∧ Hid (Below w.heap.size w W)) (fun _ _ _ _ _ i _ => n - (intOf i).toNat)
    case atStart => exact ⟨0, Nat.zero_le _, rfl, rfl, Lib.hid vgT_zero, Lib.hid (World.ownsMap_made _ _ _ _), Lib.hid ((Below.refl _ _).alloc (Nat.le_refl _) _)⟩
    case round =>
      obtain ⟨k, hk, rfl, rfl, HT, HO, HB⟩ := hrel
      by_cases hlt : k < n
      · have hlti : (k : Int) < (n : Int) := by omega
        obtain ⟨b, off, rfl, hb, c0, c1, c2, c3⟩ := (HA.out.on HB.out) k hlt
        have hkey := key_tx (HM.out.1 k hlt)
        have hsz := HB.out.size
        have hBa := Lib.hid (HB.out.alloc HB.out.size (.cells #[.string (tx (gm k)), .int .i64 (gl k), .int .i64 (gd k), .string (tx (gb k))] 33))
        have hOa := Lib.hid (HO.out.alloc (.cells #[.string (tx (gm k)), .int .i64 (gl k), .int .i64 (gd k), .string (tx (gb k))] 33))
        have HVi := Lib.hid (fun W => validItem_any (gm k) (gl k) (gd k) (gb k) (HM.out.1 k hlt) (HM.out.2 k hlt) W)
        have hwk : (Lit.int .i64 (k : Nat)).wf = true := WalkArith.wf_i64 (by omega)
        cases hf : fdN gm k (gm k)
        case some j =>
          obtain ⟨f1, f2, _⟩ := fdN_some.1 hf
          have HQ := Lib.hid (vg_twice (gl := gl) (gd := gd) (gb := gb) hlt f1 f2)
          have hhas : Maps.has (Dm gm k) (.string (gm k)) = true := by rw [dm_has, hf]; rfl
          clear hf f2 HVi
          go_wp2_with (at_lookup; refine wpList_lookup_own_ok_int _ rfl _ _ 74 rfl 9 3 .i64 lawS Tryz.underlying74 Tryz.underlying3 (zeroE _) w.heap.size k _ rfl hOa.out _ _ rfl hkey ?_; intro c hat hwc; clear hat hwc)
          go_returns
          exact ⟨by rw [HQ.out]; rfl, hBa.out⟩
        case none =>
          have HN := Lib.hid (fdN_none.1 hf)
          have hhas : Maps.has (Dm gm k) (.string (gm k)) = false := by rw [dm_has, hf]; rfl
          clear hf
          cases ho : okI (gm k) (gl k) (gd k) (gb k)
          · have HQ := Lib.hid (vg_item hlt ho)
            rw [ho] at HVi
            clear ho
            go_wp2_with (first
              | (at_lookup; refine wpList_lookup_own_ok_int _ rfl _ _ 74 rfl 9 3 .i64 lawS Tryz.underlying74 Tryz.underlying3 (zeroE _) w.heap.size k _ rfl hOa.out _ _ rfl hkey ?_; intro c hat hwc; clear hat hwc)
              | (go_at_call 48; refine (HVi.out _).mono ?_; rintro e w2 ⟨rfl, hb2⟩; have HB2 := Lib.hid (hBa.out.trans (hb2.mono hBa.out.size)); clear hb2))
            go_returns
            exact ⟨by rw [HQ.out]; rfl, HB2.out⟩
          · have HG := Lib.hid (vgT_succ HT.out ho HN.out)
            rw [ho] at HVi
            clear ho
            go_wp2_with (first
              | (at_lookup; refine wpList_lookup_own_ok_int _ rfl _ _ 74 rfl 9 3 .i64 lawS Tryz.underlying74 Tryz.underlying3 (zeroE _) w.heap.size k _ rfl hOa.out _ _ rfl hkey ?_; intro c hat hwc; clear hat hwc)
              | (go_at_call 48; refine (HVi.out _).mono ?_; rintro e w2 ⟨rfl, hb2⟩; have HB2 := Lib.hid (hBa.out.trans (hb2.mono hBa.out.size)); have HO2 := Lib.hid (mapOn hOa.out hb2); have e0 : w2.cell? ⟨wr.heap.size, 0, none⟩ = some (.string (tx (gm k))) := (hb2.cell (p := ⟨wr.heap.size, 0, none⟩) (by simp)).trans (by simp [go_sem]); clear hb2)
              | (at_mapUpdate; refine wpList_mapUpdate_own _ rfl _ _ _ 74 rfl 9 3 lawS Tryz.underlying74 _ w.heap.size k _ rfl HO2.out (by unfold maxLen; omega) _ _ _ rfl rfl hkey _ [] (plainElem_int Tryz.underlying3 hwk) ?_; intro w1 hown1 hgrow1))
            go_roundw
            case rel => exact ⟨k + 1, by omega, by go_num, rfl, HG, Lib.hid hown1, Lib.hid (HB2.out.grown hgrow1 HB2.out.size (fun j hj => by cases hj; exact Nat.le_refl _))⟩
            case measure => simp [intOf]; omega
      · obtain rfl : k = n := by omega
        have HQ := Lib.hid (vgB_true ⟨hn64.out, HT.out⟩)
        go_wp2
        go_returns
        exact ⟨by rw [HQ.out]; exact ⟨_, rfl, Nat.le_refl _, HO.out⟩, HB.out⟩
end Go.Proofs.YtkgfaemdgmmdkaaGreatDoor.Gx
