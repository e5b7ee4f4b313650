/- Valid and Find, in both. -/
import Derived.Test.YteojmhfocdlnoaaDoorTrGby
namespace Go.Proofs.YteojmhfocdlnoaaDoor.Tr
open Go.Proofs.YteojmhfocdlnoaaDoor
open Go.RowKit Go.Maps
attribute [local go_sem] After.cell After.frozen After.lt After.le After.ne After.ne' After.set_eq After.size_set After.lt_add tx_size tx_toList

section
variable (a : Option Addr) (n cap : Nat) (gm : Nat → List UInt8) (gl gd : Nat → Int) (gb : Nat → List UInt8) (w : World) (hA : ItAt w a n gm gl gd gb) (hn : n ≤ 1000) (hm : Sht n gm) (hb : Sht n gb)
include hA hn hm hb
/-- What Find answers. -/
noncomputable def fiE (n : Nat) (gm : Nat → List UInt8) (gl gd : Nat → Int) (gb : Nat → List UInt8) (m : List UInt8) : Int := if vgB n gm gl gd gb then (match fdN gm n m with | some _ => 0 | none => 5) else 1
noncomputable def fiN (n : Nat) (gm : Nat → List UInt8) (gl gd : Nat → Int) (gb : Nat → List UInt8) (m : List UInt8) : Int := if vgB n gm gl gd gb then (match fdN gm n m with | some i => (i : Nat) | none => 0) else 0
set_option maxRecDepth 100000 in
set_option maxHeartbeats 1000000 in
theorem find_say (m : List UInt8) (hmm : m.length ≤ 9223372036854775807) : Calls Tryd.prog 9 #[.slice a n cap, .string (tx m)] w fun e w' => e = .returned (.tuple #[.int .i64 (fiN n gm gl gd gb m), .int .i64 (fiE n gm gl gd gb m)]) ∧ Below w.heap.size w w' := by
  have HB := Lib.hid (fun W (hW : Below w.heap.size w W) => byMark_any a n cap gm gl gd gb W (hA.on hW) hn hm hb)
  have hkey := key_tx hmm
  unfold fiN fiE
  cases hv : vgB n gm gl gd gb
  · rw [hv] at HB
    clear hA hm hb hn hv hkey hmm
    go_enter Tryd.func9, Tryd.ntmps9
    go_wp2_with fail
    refine (HB.out _ (Below.refl _ _)).mono ?_
    rintro e w2 ⟨hr, hb2⟩
    have HB2 := Lib.hid hb2
    obtain rfl : e = _ := hr
    clear hb2
    go_wp2
    go_returns
    exact ⟨rfl, HB2.out⟩
  · have hvd := (vgB_of hv).2
    rw [hv] at HB
    cases hf : fdN gm n m
    · have hhas : Maps.has (Dm gm n) (.string m) = false := by rw [dm_has, hf]; rfl
      clear hA hm hb hn hv hmm hf hvd
      go_enter Tryd.func9, Tryd.ntmps9
      go_wp2_with fail
      refine (HB.out _ (Below.refl _ _)).mono ?_
      rintro e w2 ⟨⟨B, rfl, hB, hO⟩, hb2⟩
      have HB2 := Lib.hid hb2
      have HO := Lib.hid hO
      clear hb2 hO
      go_wp2_with (at_lookup; refine wpList_lookup_own_ok_int _ rfl _ _ 50 rfl 9 3 .i64 lawS Tryd.underlying50 Tryd.underlying3 (zeroE _) B n _ rfl HO.out _ _ rfl hkey ?_; intro c hat hwc; clear hat hwc)
      go_returns
      exact ⟨rfl, HB2.out⟩
    · rename_i i
      have hhas : Maps.has (Dm gm n) (.string m) = true := by rw [dm_has, hf]; rfl
      have hat0 := dm_at (.lit (.int .i64 0)) (fun i hi j hj => (hvd i hi).2 j hj) hf
      clear hA hm hb hn hv hmm hf hvd
      go_enter Tryd.func9, Tryd.ntmps9
      go_wp2_with fail
      refine (HB.out _ (Below.refl _ _)).mono ?_
      rintro e w2 ⟨⟨B, rfl, hB, hO⟩, hb2⟩
      have HB2 := Lib.hid hb2
      have HO := Lib.hid hO
      clear hb2 hO
      go_wp2_with (at_lookup; refine wpList_lookup_own_ok_int _ rfl _ _ 50 rfl 9 3 .i64 lawS Tryd.underlying50 Tryd.underlying3 (zeroE _) B n _ rfl HO.out _ _ rfl hkey ?_; intro c hat hwc; obtain rfl : ((i : Nat) : Int) = c := (by rw [hat0] at hat; simpa using hat); clear hat hwc)
      go_returns
      exact ⟨rfl, HB2.out⟩
end
end Go.Proofs.YteojmhfocdlnoaaDoor.Tr
