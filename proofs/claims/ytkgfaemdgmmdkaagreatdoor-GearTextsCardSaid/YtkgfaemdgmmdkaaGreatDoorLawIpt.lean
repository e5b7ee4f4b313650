/- GearTexts: the law's walk. -/
import Derived.Test.YtkgfaemdgmmdkaaGreatDoorIpsay
namespace Go.Proofs.YtkgfaemdgmmdkaaGreatDoor.Gx
open Go.Proofs.YtkgfaemdgmmdkaaGreatDoor
open Go.RowKit
attribute [local go_sem] After.cell After.frozen After.lt After.le After.ne After.ne' After.set_eq After.size_set After.lt_add tx_size tx_toList

section
variable (a : Option Addr) (cap : Nat) (ps : List It) (L : List UInt8) (w : World) (hA : IAt w a ps) (hsh : ShI ps) (hn : ps.length ≤ 9223372036854775807) (hL : L.length ≤ 9223372036854775807) (hS : Std w)
include hA hsh hn hL hS
set_option maxRecDepth 100000 in
set_option maxHeartbeats 2000000 in
theorem gearTexts_any :
    Calls Tryz.prog 3 #[.slice a ps.length cap, .string (tx L)] w fun e w' => e = .returned (.bool true) ∧ Below w.heap.size w w' := by
  have HAw := Lib.hid awake_any
  have HMn := Lib.hid (fun W (hW : Below w.heap.size w W) => many_any a ps.length cap (iM ps) (iL ps) (iD ps) (iB ps) none 0 0 (fun _ => []) (fun _ => 0) W (hA.on hW) (fun k hk => absurd hk (by omega)) hn (by omega))
  have hLI : (L.length : Int) ≤ 9223372036854775807 := by omega
  by_cases h80 : ps.length ≤ 80
  · by_cases h3k : L.length ≤ 3000
    · have h3I : ¬ (3000 : Int) < (L.length : Int) := by omega
      have e0 : (⟨#[]⟩ : ByteArray) = tx [] := rfl
      have HS := Lib.hid hS
      have HG := Lib.hid hA
      have F1 := Lib.hid (formatI_say (cap := cap) hA (by omega) hsh hS)
      have F2 := Lib.hid (rformatI_say (cap := cap) hA (by omega) hsh)
      have V1 := Lib.hid (rvalid_i (cap := cap) hA (by omega) hsh)
      have HP3 := Lib.hid (fun (h : gB ps = true) => parseI_whole (w := w) (L := formI ps) (ps := ps) (by have := goodI_text (gB_good.1 h); omega) hS (formI_whole (gB_good.1 h)))
      have hor := textI_or L (by omega) hS
      rcases hor with ⟨qs, hq⟩ | ⟨k, hk⟩
      · have P1 := Lib.hid (parseI_whole (w := w) (by omega) hS hq)
        have P2 := Lib.hid (rparseI_whole (w := w) (by omega) hq)
        have HQ := Lib.hid hq.1.1
        have HL := Lib.hid (wholeI_form hq).symm
        have hq64 := hq.1.1.1
        clear hq hS hA hsh hn hL
        unfold formS at F1 F2
        cases hg : gB ps
        · rw [hg] at F1 F2 V1
          rw [if_neg (by simp)] at F1 F2
          clear hg HP3
          go_enter Tryz.func3, Tryz.ntmps3
          go_wp2_with fail
          refine calls_after (HAw.out _) ?_
          intro x0
          go_wp2_with fail
          refine (HMn.out _ (by (repeat' (first | (with_reducible exact Below.refl _ _) | (with_reducible assumption) | (with_reducible refine Below.alloc ?_ ?_ _) | (with_reducible refine Below.drew ?_) | (with_reducible refine below_drewN ?_ _) | (with_reducible refine Below.setCell ?_ ?_ _) | (with_reducible refine below_after ?_ ?_ _) | (with_reducible refine below_set ?_) | (with_reducible refine After.size_le _ ?_) | (with_reducible refine size_alloc_le ?_) | (with_reducible refine size_set_le ?_) | (with_reducible refine size_drewN_le ?_) | go_size)))).mono ?_
          rintro e w1 ⟨⟨b, rfl, hbb⟩, hb1⟩
          obtain ⟨x1, rfl⟩ := after_ip (x0.out.trans (hb1.mono x0.out.size))
          clear hb1
          cases b
          · clear hbb
            go_wp2_with fail
            refine (F1.out _ (by (repeat' (first | (with_reducible exact Below.refl _ _) | (with_reducible assumption) | (with_reducible refine Below.alloc ?_ ?_ _) | (with_reducible refine Below.drew ?_) | (with_reducible refine below_drewN ?_ _) | (with_reducible refine Below.setCell ?_ ?_ _) | (with_reducible refine below_after ?_ ?_ _) | (with_reducible refine below_set ?_) | (with_reducible refine After.size_le _ ?_) | (with_reducible refine size_alloc_le ?_) | (with_reducible refine size_set_le ?_) | (with_reducible refine size_drewN_le ?_) | go_size)))).mono ?_
            rintro e5 w5 ⟨rfl, hb5⟩
            obtain ⟨x2, rfl⟩ := after_ip (x1.out.trans (hb5.mono x1.out.size))
            clear hb5
            go_wp2_with fail
            refine (P1.out _ (by (repeat' (first | (with_reducible exact Below.refl _ _) | (with_reducible assumption) | (with_reducible refine Below.alloc ?_ ?_ _) | (with_reducible refine Below.drew ?_) | (with_reducible refine below_drewN ?_ _) | (with_reducible refine Below.setCell ?_ ?_ _) | (with_reducible refine below_after ?_ ?_ _) | (with_reducible refine below_set ?_) | (with_reducible refine After.size_le _ ?_) | (with_reducible refine size_alloc_le ?_) | (with_reducible refine size_set_le ?_) | (with_reducible refine size_drewN_le ?_) | go_size)))).mono ?_
            rintro e1 w1 ⟨⟨a1, c1, rfl, h1⟩, hb1⟩
            obtain ⟨x3, rfl⟩ := after_ip (x2.out.trans (hb1.mono x2.out.size))
            clear hb1
            go_wp2_with fail
            refine (P2.out _ (by (repeat' (first | (with_reducible exact Below.refl _ _) | (with_reducible assumption) | (with_reducible refine Below.alloc ?_ ?_ _) | (with_reducible refine Below.drew ?_) | (with_reducible refine below_drewN ?_ _) | (with_reducible refine Below.setCell ?_ ?_ _) | (with_reducible refine below_after ?_ ?_ _) | (with_reducible refine below_set ?_) | (with_reducible refine After.size_le _ ?_) | (with_reducible refine size_alloc_le ?_) | (with_reducible refine size_set_le ?_) | (with_reducible refine size_drewN_le ?_) | go_size)))).mono ?_
            rintro e2 w2 ⟨⟨a2, c2, rfl, h2⟩, hb2⟩
            have h1' := Lib.hid (h1.on hb2)
            have h2' := Lib.hid h2
            obtain ⟨x4, rfl⟩ := after_ip (x3.out.trans (hb2.mono x3.out.size))
            clear hb2 h1 h2
            go_wp2_with fail
            refine (F2.out _ (by (repeat' (first | (with_reducible exact Below.refl _ _) | (with_reducible assumption) | (with_reducible refine Below.alloc ?_ ?_ _) | (with_reducible refine Below.drew ?_) | (with_reducible refine below_drewN ?_ _) | (with_reducible refine Below.setCell ?_ ?_ _) | (with_reducible refine below_after ?_ ?_ _) | (with_reducible refine below_set ?_) | (with_reducible refine After.size_le _ ?_) | (with_reducible refine size_alloc_le ?_) | (with_reducible refine size_set_le ?_) | (with_reducible refine size_drewN_le ?_) | go_size)))).mono ?_
            rintro e6 w6 ⟨rfl, hb6⟩
            have h1' := Lib.hid (h1'.out.on hb6)
            have h2' := Lib.hid (h2'.out.on hb6)
            obtain ⟨x5, rfl⟩ := after_ip (x4.out.trans (hb6.mono x4.out.size))
            clear hb6
            have HSm := Lib.hid (items_i h1'.out h2'.out (by omega) c1 c2)
            go_wp2_with fail
            refine HSm.out.mono ?_
            rintro e3 w3 ⟨rfl, hb3⟩
            have h1' := Lib.hid (h1'.out.on hb3)
            obtain ⟨x6, rfl⟩ := after_ip (x5.out.trans (hb3.mono x5.out.size))
            clear hb3 HSm h2'
            have HFm := Lib.hid (formatI_ok a1 c1 qs x6.w h1'.out HQ.out (HS.out.on x6.out))
            rw [HL.out] at HFm
            go_wp2_with fail
            refine HFm.out.mono ?_
            rintro e4 w4 ⟨rfl, hb4⟩
            obtain ⟨x7, rfl⟩ := after_ip (x6.out.trans (hb4.mono x6.out.size))
            clear hb4 HFm h1'
            go_wp2_with fail
            refine (V1.out _ (by (repeat' (first | (with_reducible exact Below.refl _ _) | (with_reducible assumption) | (with_reducible refine Below.alloc ?_ ?_ _) | (with_reducible refine Below.drew ?_) | (with_reducible refine below_drewN ?_ _) | (with_reducible refine Below.setCell ?_ ?_ _) | (with_reducible refine below_after ?_ ?_ _) | (with_reducible refine below_set ?_) | (with_reducible refine After.size_le _ ?_) | (with_reducible refine size_alloc_le ?_) | (with_reducible refine size_set_le ?_) | (with_reducible refine size_drewN_le ?_) | go_size)))).mono ?_
            rintro e7 w7 ⟨rfl, hb7⟩
            obtain ⟨x8, rfl⟩ := after_ip (x7.out.trans (hb7.mono x7.out.size))
            clear hb7
            go_wp2
            go_ret
            exact ⟨rfl, by (repeat' (first | (with_reducible exact Below.refl _ _) | (with_reducible assumption) | (with_reducible refine Below.alloc ?_ ?_ _) | (with_reducible refine Below.drew ?_) | (with_reducible refine below_drewN ?_ _) | (with_reducible refine Below.setCell ?_ ?_ _) | (with_reducible refine below_after ?_ ?_ _) | (with_reducible refine below_set ?_) | (with_reducible refine After.size_le _ ?_) | (with_reducible refine size_alloc_le ?_) | (with_reducible refine size_set_le ?_) | (with_reducible refine size_drewN_le ?_) | go_size))⟩
          · go_wp2
            go_ret
            exact ⟨rfl, by (repeat' (first | (with_reducible exact Below.refl _ _) | (with_reducible assumption) | (with_reducible refine Below.alloc ?_ ?_ _) | (with_reducible refine Below.drew ?_) | (with_reducible refine below_drewN ?_ _) | (with_reducible refine Below.setCell ?_ ?_ _) | (with_reducible refine below_after ?_ ?_ _) | (with_reducible refine below_set ?_) | (with_reducible refine After.size_le _ ?_) | (with_reducible refine size_alloc_le ?_) | (with_reducible refine size_set_le ?_) | (with_reducible refine size_drewN_le ?_) | go_size))⟩
        · have P3 := Lib.hid (HP3.out hg)
          rw [hg] at F1 F2 V1
          rw [if_pos rfl] at F1 F2
          clear hg HP3
          generalize formI ps = A at *
          go_enter Tryz.func3, Tryz.ntmps3
          go_wp2_with fail
          refine calls_after (HAw.out _) ?_
          intro x0
          go_wp2_with fail
          refine (HMn.out _ (by (repeat' (first | (with_reducible exact Below.refl _ _) | (with_reducible assumption) | (with_reducible refine Below.alloc ?_ ?_ _) | (with_reducible refine Below.drew ?_) | (with_reducible refine below_drewN ?_ _) | (with_reducible refine Below.setCell ?_ ?_ _) | (with_reducible refine below_after ?_ ?_ _) | (with_reducible refine below_set ?_) | (with_reducible refine After.size_le _ ?_) | (with_reducible refine size_alloc_le ?_) | (with_reducible refine size_set_le ?_) | (with_reducible refine size_drewN_le ?_) | go_size)))).mono ?_
          rintro e w1 ⟨⟨b, rfl, hbb⟩, hb1⟩
          obtain ⟨x1, rfl⟩ := after_ip (x0.out.trans (hb1.mono x0.out.size))
          clear hb1
          cases b
          · clear hbb
            go_wp2_with fail
            refine (F1.out _ (by (repeat' (first | (with_reducible exact Below.refl _ _) | (with_reducible assumption) | (with_reducible refine Below.alloc ?_ ?_ _) | (with_reducible refine Below.drew ?_) | (with_reducible refine below_drewN ?_ _) | (with_reducible refine Below.setCell ?_ ?_ _) | (with_reducible refine below_after ?_ ?_ _) | (with_reducible refine below_set ?_) | (with_reducible refine After.size_le _ ?_) | (with_reducible refine size_alloc_le ?_) | (with_reducible refine size_set_le ?_) | (with_reducible refine size_drewN_le ?_) | go_size)))).mono ?_
            rintro e5 w5 ⟨rfl, hb5⟩
            obtain ⟨x2, rfl⟩ := after_ip (x1.out.trans (hb5.mono x1.out.size))
            clear hb5
            go_wp2_with fail
            refine (P1.out _ (by (repeat' (first | (with_reducible exact Below.refl _ _) | (with_reducible assumption) | (with_reducible refine Below.alloc ?_ ?_ _) | (with_reducible refine Below.drew ?_) | (with_reducible refine below_drewN ?_ _) | (with_reducible refine Below.setCell ?_ ?_ _) | (with_reducible refine below_after ?_ ?_ _) | (with_reducible refine below_set ?_) | (with_reducible refine After.size_le _ ?_) | (with_reducible refine size_alloc_le ?_) | (with_reducible refine size_set_le ?_) | (with_reducible refine size_drewN_le ?_) | go_size)))).mono ?_
            rintro e1 w1 ⟨⟨a1, c1, rfl, h1⟩, hb1⟩
            obtain ⟨x3, rfl⟩ := after_ip (x2.out.trans (hb1.mono x2.out.size))
            clear hb1
            go_wp2_with fail
            refine (P2.out _ (by (repeat' (first | (with_reducible exact Below.refl _ _) | (with_reducible assumption) | (with_reducible refine Below.alloc ?_ ?_ _) | (with_reducible refine Below.drew ?_) | (with_reducible refine below_drewN ?_ _) | (with_reducible refine Below.setCell ?_ ?_ _) | (with_reducible refine below_after ?_ ?_ _) | (with_reducible refine below_set ?_) | (with_reducible refine After.size_le _ ?_) | (with_reducible refine size_alloc_le ?_) | (with_reducible refine size_set_le ?_) | (with_reducible refine size_drewN_le ?_) | go_size)))).mono ?_
            rintro e2 w2 ⟨⟨a2, c2, rfl, h2⟩, hb2⟩
            have h1' := Lib.hid (h1.on hb2)
            have h2' := Lib.hid h2
            obtain ⟨x4, rfl⟩ := after_ip (x3.out.trans (hb2.mono x3.out.size))
            clear hb2 h1 h2
            go_wp2_with fail
            refine (F2.out _ (by (repeat' (first | (with_reducible exact Below.refl _ _) | (with_reducible assumption) | (with_reducible refine Below.alloc ?_ ?_ _) | (with_reducible refine Below.drew ?_) | (with_reducible refine below_drewN ?_ _) | (with_reducible refine Below.setCell ?_ ?_ _) | (with_reducible refine below_after ?_ ?_ _) | (with_reducible refine below_set ?_) | (with_reducible refine After.size_le _ ?_) | (with_reducible refine size_alloc_le ?_) | (with_reducible refine size_set_le ?_) | (with_reducible refine size_drewN_le ?_) | go_size)))).mono ?_
            rintro e6 w6 ⟨rfl, hb6⟩
            have h1' := Lib.hid (h1'.out.on hb6)
            have h2' := Lib.hid (h2'.out.on hb6)
            obtain ⟨x5, rfl⟩ := after_ip (x4.out.trans (hb6.mono x4.out.size))
            clear hb6
            have HSm := Lib.hid (items_i h1'.out h2'.out (by omega) c1 c2)
            go_wp2_with fail
            refine HSm.out.mono ?_
            rintro e3 w3 ⟨rfl, hb3⟩
            have h1' := Lib.hid (h1'.out.on hb3)
            obtain ⟨x6, rfl⟩ := after_ip (x5.out.trans (hb3.mono x5.out.size))
            clear hb3 HSm h2'
            have HFm := Lib.hid (formatI_ok a1 c1 qs x6.w h1'.out HQ.out (HS.out.on x6.out))
            rw [HL.out] at HFm
            go_wp2_with fail
            refine HFm.out.mono ?_
            rintro e4 w4 ⟨rfl, hb4⟩
            obtain ⟨x7, rfl⟩ := after_ip (x6.out.trans (hb4.mono x6.out.size))
            clear hb4 HFm h1'
            go_wp2_with fail
            refine (V1.out _ (by (repeat' (first | (with_reducible exact Below.refl _ _) | (with_reducible assumption) | (with_reducible refine Below.alloc ?_ ?_ _) | (with_reducible refine Below.drew ?_) | (with_reducible refine below_drewN ?_ _) | (with_reducible refine Below.setCell ?_ ?_ _) | (with_reducible refine below_after ?_ ?_ _) | (with_reducible refine below_set ?_) | (with_reducible refine After.size_le _ ?_) | (with_reducible refine size_alloc_le ?_) | (with_reducible refine size_set_le ?_) | (with_reducible refine size_drewN_le ?_) | go_size)))).mono ?_
            rintro e7 w7 ⟨rfl, hb7⟩
            obtain ⟨x8, rfl⟩ := after_ip (x7.out.trans (hb7.mono x7.out.size))
            clear hb7
            go_wp2_with fail
            refine (P3.out _ (by (repeat' (first | (with_reducible exact Below.refl _ _) | (with_reducible assumption) | (with_reducible refine Below.alloc ?_ ?_ _) | (with_reducible refine Below.drew ?_) | (with_reducible refine below_drewN ?_ _) | (with_reducible refine Below.setCell ?_ ?_ _) | (with_reducible refine below_after ?_ ?_ _) | (with_reducible refine below_set ?_) | (with_reducible refine After.size_le _ ?_) | (with_reducible refine size_alloc_le ?_) | (with_reducible refine size_set_le ?_) | (with_reducible refine size_drewN_le ?_) | go_size)))).mono ?_
            rintro e8 w8 ⟨⟨a3, c3, rfl, h3⟩, hb8⟩
            have h3' := Lib.hid h3
            obtain ⟨x9, rfl⟩ := after_ip (x8.out.trans (hb8.mono x8.out.size))
            clear hb8 h3
            have HSl := Lib.hid (items_i h3'.out (HG.out.on x9.out) (by omega) c3 cap)
            go_wp2_with fail
            refine HSl.out.mono ?_
            rintro e9 w9 ⟨rfl, hb9⟩
            obtain ⟨x10, rfl⟩ := after_ip (x9.out.trans (hb9.mono x9.out.size))
            clear hb9 h3' HSl
            go_wp2
            go_ret
            exact ⟨rfl, by (repeat' (first | (with_reducible exact Below.refl _ _) | (with_reducible assumption) | (with_reducible refine Below.alloc ?_ ?_ _) | (with_reducible refine Below.drew ?_) | (with_reducible refine below_drewN ?_ _) | (with_reducible refine Below.setCell ?_ ?_ _) | (with_reducible refine below_after ?_ ?_ _) | (with_reducible refine below_set ?_) | (with_reducible refine After.size_le _ ?_) | (with_reducible refine size_alloc_le ?_) | (with_reducible refine size_set_le ?_) | (with_reducible refine size_drewN_le ?_) | go_size))⟩
          · go_wp2
            go_ret
            exact ⟨rfl, by (repeat' (first | (with_reducible exact Below.refl _ _) | (with_reducible assumption) | (with_reducible refine Below.alloc ?_ ?_ _) | (with_reducible refine Below.drew ?_) | (with_reducible refine below_drewN ?_ _) | (with_reducible refine Below.setCell ?_ ?_ _) | (with_reducible refine below_after ?_ ?_ _) | (with_reducible refine below_set ?_) | (with_reducible refine After.size_le _ ?_) | (with_reducible refine size_alloc_le ?_) | (with_reducible refine size_set_le ?_) | (with_reducible refine size_drewN_le ?_) | go_size))⟩
      · have P1 := Lib.hid hk.1
        have P2 := Lib.hid hk.2
        clear hk hS hA hsh hn hL
        unfold formS at F1 F2
        cases hg : gB ps
        · rw [hg] at F1 F2 V1
          rw [if_neg (by simp)] at F1 F2
          clear hg HP3
          go_enter Tryz.func3, Tryz.ntmps3
          go_wp2_with fail
          refine calls_after (HAw.out _) ?_
          intro x0
          go_wp2_with fail
          refine (HMn.out _ (by (repeat' (first | (with_reducible exact Below.refl _ _) | (with_reducible assumption) | (with_reducible refine Below.alloc ?_ ?_ _) | (with_reducible refine Below.drew ?_) | (with_reducible refine below_drewN ?_ _) | (with_reducible refine Below.setCell ?_ ?_ _) | (with_reducible refine below_after ?_ ?_ _) | (with_reducible refine below_set ?_) | (with_reducible refine After.size_le _ ?_) | (with_reducible refine size_alloc_le ?_) | (with_reducible refine size_set_le ?_) | (with_reducible refine size_drewN_le ?_) | go_size)))).mono ?_
          rintro e w1 ⟨⟨b, rfl, hbb⟩, hb1⟩
          obtain ⟨x1, rfl⟩ := after_ip (x0.out.trans (hb1.mono x0.out.size))
          clear hb1
          cases b
          · clear hbb
            go_wp2_with fail
            refine (F1.out _ (by (repeat' (first | (with_reducible exact Below.refl _ _) | (with_reducible assumption) | (with_reducible refine Below.alloc ?_ ?_ _) | (with_reducible refine Below.drew ?_) | (with_reducible refine below_drewN ?_ _) | (with_reducible refine Below.setCell ?_ ?_ _) | (with_reducible refine below_after ?_ ?_ _) | (with_reducible refine below_set ?_) | (with_reducible refine After.size_le _ ?_) | (with_reducible refine size_alloc_le ?_) | (with_reducible refine size_set_le ?_) | (with_reducible refine size_drewN_le ?_) | go_size)))).mono ?_
            rintro e5 w5 ⟨rfl, hb5⟩
            obtain ⟨x2, rfl⟩ := after_ip (x1.out.trans (hb5.mono x1.out.size))
            clear hb5
            go_wp2_with fail
            refine (P1.out _ (by (repeat' (first | (with_reducible exact Below.refl _ _) | (with_reducible assumption) | (with_reducible refine Below.alloc ?_ ?_ _) | (with_reducible refine Below.drew ?_) | (with_reducible refine below_drewN ?_ _) | (with_reducible refine Below.setCell ?_ ?_ _) | (with_reducible refine below_after ?_ ?_ _) | (with_reducible refine below_set ?_) | (with_reducible refine After.size_le _ ?_) | (with_reducible refine size_alloc_le ?_) | (with_reducible refine size_set_le ?_) | (with_reducible refine size_drewN_le ?_) | go_size)))).mono ?_
            rintro e1 w1 ⟨rfl, hb1⟩
            obtain ⟨x3, rfl⟩ := after_ip (x2.out.trans (hb1.mono x2.out.size))
            clear hb1
            go_wp2_with fail
            refine (P2.out _ (by (repeat' (first | (with_reducible exact Below.refl _ _) | (with_reducible assumption) | (with_reducible refine Below.alloc ?_ ?_ _) | (with_reducible refine Below.drew ?_) | (with_reducible refine below_drewN ?_ _) | (with_reducible refine Below.setCell ?_ ?_ _) | (with_reducible refine below_after ?_ ?_ _) | (with_reducible refine below_set ?_) | (with_reducible refine After.size_le _ ?_) | (with_reducible refine size_alloc_le ?_) | (with_reducible refine size_set_le ?_) | (with_reducible refine size_drewN_le ?_) | go_size)))).mono ?_
            rintro e2 w2 ⟨rfl, hb2⟩
            obtain ⟨x4, rfl⟩ := after_ip (x3.out.trans (hb2.mono x3.out.size))
            clear hb2
            go_wp2_with fail
            refine (F2.out _ (by (repeat' (first | (with_reducible exact Below.refl _ _) | (with_reducible assumption) | (with_reducible refine Below.alloc ?_ ?_ _) | (with_reducible refine Below.drew ?_) | (with_reducible refine below_drewN ?_ _) | (with_reducible refine Below.setCell ?_ ?_ _) | (with_reducible refine below_after ?_ ?_ _) | (with_reducible refine below_set ?_) | (with_reducible refine After.size_le _ ?_) | (with_reducible refine size_alloc_le ?_) | (with_reducible refine size_set_le ?_) | (with_reducible refine size_drewN_le ?_) | go_size)))).mono ?_
            rintro e6 w6 ⟨rfl, hb6⟩
            obtain ⟨x5, rfl⟩ := after_ip (x4.out.trans (hb6.mono x4.out.size))
            clear hb6
            have HSm := Lib.hid (items_i (ps := []) (w := x5.w) (a := none) (a2 := none) (fun k hk => absurd hk (by simp)) (fun k hk => absurd hk (by simp)) (by simp) 0 0)
            go_wp2_with fail
            refine HSm.out.mono ?_
            rintro e3 w3 ⟨rfl, hb3⟩
            obtain ⟨x7, rfl⟩ := after_ip (x5.out.trans (hb3.mono x5.out.size))
            clear hb3 HSm
            go_wp2_with fail
            refine (V1.out _ (by (repeat' (first | (with_reducible exact Below.refl _ _) | (with_reducible assumption) | (with_reducible refine Below.alloc ?_ ?_ _) | (with_reducible refine Below.drew ?_) | (with_reducible refine below_drewN ?_ _) | (with_reducible refine Below.setCell ?_ ?_ _) | (with_reducible refine below_after ?_ ?_ _) | (with_reducible refine below_set ?_) | (with_reducible refine After.size_le _ ?_) | (with_reducible refine size_alloc_le ?_) | (with_reducible refine size_set_le ?_) | (with_reducible refine size_drewN_le ?_) | go_size)))).mono ?_
            rintro e7 w7 ⟨rfl, hb7⟩
            obtain ⟨x8, rfl⟩ := after_ip (x7.out.trans (hb7.mono x7.out.size))
            clear hb7
            go_wp2
            go_ret
            exact ⟨rfl, by (repeat' (first | (with_reducible exact Below.refl _ _) | (with_reducible assumption) | (with_reducible refine Below.alloc ?_ ?_ _) | (with_reducible refine Below.drew ?_) | (with_reducible refine below_drewN ?_ _) | (with_reducible refine Below.setCell ?_ ?_ _) | (with_reducible refine below_after ?_ ?_ _) | (with_reducible refine below_set ?_) | (with_reducible refine After.size_le _ ?_) | (with_reducible refine size_alloc_le ?_) | (with_reducible refine size_set_le ?_) | (with_reducible refine size_drewN_le ?_) | go_size))⟩
          · go_wp2
            go_ret
            exact ⟨rfl, by (repeat' (first | (with_reducible exact Below.refl _ _) | (with_reducible assumption) | (with_reducible refine Below.alloc ?_ ?_ _) | (with_reducible refine Below.drew ?_) | (with_reducible refine below_drewN ?_ _) | (with_reducible refine Below.setCell ?_ ?_ _) | (with_reducible refine below_after ?_ ?_ _) | (with_reducible refine below_set ?_) | (with_reducible refine After.size_le _ ?_) | (with_reducible refine size_alloc_le ?_) | (with_reducible refine size_set_le ?_) | (with_reducible refine size_drewN_le ?_) | go_size))⟩
        · have P3 := Lib.hid (HP3.out hg)
          rw [hg] at F1 F2 V1
          rw [if_pos rfl] at F1 F2
          clear hg HP3
          generalize formI ps = A at *
          go_enter Tryz.func3, Tryz.ntmps3
          go_wp2_with fail
          refine calls_after (HAw.out _) ?_
          intro x0
          go_wp2_with fail
          refine (HMn.out _ (by (repeat' (first | (with_reducible exact Below.refl _ _) | (with_reducible assumption) | (with_reducible refine Below.alloc ?_ ?_ _) | (with_reducible refine Below.drew ?_) | (with_reducible refine below_drewN ?_ _) | (with_reducible refine Below.setCell ?_ ?_ _) | (with_reducible refine below_after ?_ ?_ _) | (with_reducible refine below_set ?_) | (with_reducible refine After.size_le _ ?_) | (with_reducible refine size_alloc_le ?_) | (with_reducible refine size_set_le ?_) | (with_reducible refine size_drewN_le ?_) | go_size)))).mono ?_
          rintro e w1 ⟨⟨b, rfl, hbb⟩, hb1⟩
          obtain ⟨x1, rfl⟩ := after_ip (x0.out.trans (hb1.mono x0.out.size))
          clear hb1
          cases b
          · clear hbb
            go_wp2_with fail
            refine (F1.out _ (by (repeat' (first | (with_reducible exact Below.refl _ _) | (with_reducible assumption) | (with_reducible refine Below.alloc ?_ ?_ _) | (with_reducible refine Below.drew ?_) | (with_reducible refine below_drewN ?_ _) | (with_reducible refine Below.setCell ?_ ?_ _) | (with_reducible refine below_after ?_ ?_ _) | (with_reducible refine below_set ?_) | (with_reducible refine After.size_le _ ?_) | (with_reducible refine size_alloc_le ?_) | (with_reducible refine size_set_le ?_) | (with_reducible refine size_drewN_le ?_) | go_size)))).mono ?_
            rintro e5 w5 ⟨rfl, hb5⟩
            obtain ⟨x2, rfl⟩ := after_ip (x1.out.trans (hb5.mono x1.out.size))
            clear hb5
            go_wp2_with fail
            refine (P1.out _ (by (repeat' (first | (with_reducible exact Below.refl _ _) | (with_reducible assumption) | (with_reducible refine Below.alloc ?_ ?_ _) | (with_reducible refine Below.drew ?_) | (with_reducible refine below_drewN ?_ _) | (with_reducible refine Below.setCell ?_ ?_ _) | (with_reducible refine below_after ?_ ?_ _) | (with_reducible refine below_set ?_) | (with_reducible refine After.size_le _ ?_) | (with_reducible refine size_alloc_le ?_) | (with_reducible refine size_set_le ?_) | (with_reducible refine size_drewN_le ?_) | go_size)))).mono ?_
            rintro e1 w1 ⟨rfl, hb1⟩
            obtain ⟨x3, rfl⟩ := after_ip (x2.out.trans (hb1.mono x2.out.size))
            clear hb1
            go_wp2_with fail
            refine (P2.out _ (by (repeat' (first | (with_reducible exact Below.refl _ _) | (with_reducible assumption) | (with_reducible refine Below.alloc ?_ ?_ _) | (with_reducible refine Below.drew ?_) | (with_reducible refine below_drewN ?_ _) | (with_reducible refine Below.setCell ?_ ?_ _) | (with_reducible refine below_after ?_ ?_ _) | (with_reducible refine below_set ?_) | (with_reducible refine After.size_le _ ?_) | (with_reducible refine size_alloc_le ?_) | (with_reducible refine size_set_le ?_) | (with_reducible refine size_drewN_le ?_) | go_size)))).mono ?_
            rintro e2 w2 ⟨rfl, hb2⟩
            obtain ⟨x4, rfl⟩ := after_ip (x3.out.trans (hb2.mono x3.out.size))
            clear hb2
            go_wp2_with fail
            refine (F2.out _ (by (repeat' (first | (with_reducible exact Below.refl _ _) | (with_reducible assumption) | (with_reducible refine Below.alloc ?_ ?_ _) | (with_reducible refine Below.drew ?_) | (with_reducible refine below_drewN ?_ _) | (with_reducible refine Below.setCell ?_ ?_ _) | (with_reducible refine below_after ?_ ?_ _) | (with_reducible refine below_set ?_) | (with_reducible refine After.size_le _ ?_) | (with_reducible refine size_alloc_le ?_) | (with_reducible refine size_set_le ?_) | (with_reducible refine size_drewN_le ?_) | go_size)))).mono ?_
            rintro e6 w6 ⟨rfl, hb6⟩
            obtain ⟨x5, rfl⟩ := after_ip (x4.out.trans (hb6.mono x4.out.size))
            clear hb6
            have HSm := Lib.hid (items_i (ps := []) (w := x5.w) (a := none) (a2 := none) (fun k hk => absurd hk (by simp)) (fun k hk => absurd hk (by simp)) (by simp) 0 0)
            go_wp2_with fail
            refine HSm.out.mono ?_
            rintro e3 w3 ⟨rfl, hb3⟩
            obtain ⟨x7, rfl⟩ := after_ip (x5.out.trans (hb3.mono x5.out.size))
            clear hb3 HSm
            go_wp2_with fail
            refine (V1.out _ (by (repeat' (first | (with_reducible exact Below.refl _ _) | (with_reducible assumption) | (with_reducible refine Below.alloc ?_ ?_ _) | (with_reducible refine Below.drew ?_) | (with_reducible refine below_drewN ?_ _) | (with_reducible refine Below.setCell ?_ ?_ _) | (with_reducible refine below_after ?_ ?_ _) | (with_reducible refine below_set ?_) | (with_reducible refine After.size_le _ ?_) | (with_reducible refine size_alloc_le ?_) | (with_reducible refine size_set_le ?_) | (with_reducible refine size_drewN_le ?_) | go_size)))).mono ?_
            rintro e7 w7 ⟨rfl, hb7⟩
            obtain ⟨x8, rfl⟩ := after_ip (x7.out.trans (hb7.mono x7.out.size))
            clear hb7
            go_wp2_with fail
            refine (P3.out _ (by (repeat' (first | (with_reducible exact Below.refl _ _) | (with_reducible assumption) | (with_reducible refine Below.alloc ?_ ?_ _) | (with_reducible refine Below.drew ?_) | (with_reducible refine below_drewN ?_ _) | (with_reducible refine Below.setCell ?_ ?_ _) | (with_reducible refine below_after ?_ ?_ _) | (with_reducible refine below_set ?_) | (with_reducible refine After.size_le _ ?_) | (with_reducible refine size_alloc_le ?_) | (with_reducible refine size_set_le ?_) | (with_reducible refine size_drewN_le ?_) | go_size)))).mono ?_
            rintro e8 w8 ⟨⟨a3, c3, rfl, h3⟩, hb8⟩
            have h3' := Lib.hid h3
            obtain ⟨x9, rfl⟩ := after_ip (x8.out.trans (hb8.mono x8.out.size))
            clear hb8 h3
            have HSl := Lib.hid (items_i h3'.out (HG.out.on x9.out) (by omega) c3 cap)
            go_wp2_with fail
            refine HSl.out.mono ?_
            rintro e9 w9 ⟨rfl, hb9⟩
            obtain ⟨x10, rfl⟩ := after_ip (x9.out.trans (hb9.mono x9.out.size))
            clear hb9 h3' HSl
            go_wp2
            go_ret
            exact ⟨rfl, by (repeat' (first | (with_reducible exact Below.refl _ _) | (with_reducible assumption) | (with_reducible refine Below.alloc ?_ ?_ _) | (with_reducible refine Below.drew ?_) | (with_reducible refine below_drewN ?_ _) | (with_reducible refine Below.setCell ?_ ?_ _) | (with_reducible refine below_after ?_ ?_ _) | (with_reducible refine below_set ?_) | (with_reducible refine After.size_le _ ?_) | (with_reducible refine size_alloc_le ?_) | (with_reducible refine size_set_le ?_) | (with_reducible refine size_drewN_le ?_) | go_size))⟩
          · go_wp2
            go_ret
            exact ⟨rfl, by (repeat' (first | (with_reducible exact Below.refl _ _) | (with_reducible assumption) | (with_reducible refine Below.alloc ?_ ?_ _) | (with_reducible refine Below.drew ?_) | (with_reducible refine below_drewN ?_ _) | (with_reducible refine Below.setCell ?_ ?_ _) | (with_reducible refine below_after ?_ ?_ _) | (with_reducible refine below_set ?_) | (with_reducible refine After.size_le _ ?_) | (with_reducible refine size_alloc_le ?_) | (with_reducible refine size_set_le ?_) | (with_reducible refine size_drewN_le ?_) | go_size))⟩
    · have h3I : (3000 : Int) < (L.length : Int) := by omega
      clear h3k hS hA hsh hn hL
      go_enter Tryz.func3, Tryz.ntmps3
      go_wp2_with fail
      refine calls_after (HAw.out _) ?_
      intro x0
      go_wp2_with fail
      refine (HMn.out _ (by (repeat' (first | (with_reducible exact Below.refl _ _) | (with_reducible assumption) | (with_reducible refine Below.alloc ?_ ?_ _) | (with_reducible refine Below.drew ?_) | (with_reducible refine below_drewN ?_ _) | (with_reducible refine Below.setCell ?_ ?_ _) | (with_reducible refine below_after ?_ ?_ _) | (with_reducible refine below_set ?_) | (with_reducible refine After.size_le _ ?_) | (with_reducible refine size_alloc_le ?_) | (with_reducible refine size_set_le ?_) | (with_reducible refine size_drewN_le ?_) | go_size)))).mono ?_
      rintro e w1 ⟨⟨b, rfl, hbb⟩, hb1⟩
      obtain ⟨x1, rfl⟩ := after_ip (x0.out.trans (hb1.mono x0.out.size))
      clear hb1
      cases b
      · go_wp2
        go_ret
        exact ⟨rfl, by (repeat' (first | (with_reducible exact Below.refl _ _) | (with_reducible assumption) | (with_reducible refine Below.alloc ?_ ?_ _) | (with_reducible refine Below.drew ?_) | (with_reducible refine below_drewN ?_ _) | (with_reducible refine Below.setCell ?_ ?_ _) | (with_reducible refine below_after ?_ ?_ _) | (with_reducible refine below_set ?_) | (with_reducible refine After.size_le _ ?_) | (with_reducible refine size_alloc_le ?_) | (with_reducible refine size_set_le ?_) | (with_reducible refine size_drewN_le ?_) | go_size))⟩
      · go_wp2
        go_ret
        exact ⟨rfl, by (repeat' (first | (with_reducible exact Below.refl _ _) | (with_reducible assumption) | (with_reducible refine Below.alloc ?_ ?_ _) | (with_reducible refine Below.drew ?_) | (with_reducible refine below_drewN ?_ _) | (with_reducible refine Below.setCell ?_ ?_ _) | (with_reducible refine below_after ?_ ?_ _) | (with_reducible refine below_set ?_) | (with_reducible refine After.size_le _ ?_) | (with_reducible refine size_alloc_le ?_) | (with_reducible refine size_set_le ?_) | (with_reducible refine size_drewN_le ?_) | go_size))⟩
  · clear hS hA hsh hn hL
    go_enter Tryz.func3, Tryz.ntmps3
    go_wp2_with fail
    refine calls_after (HAw.out _) ?_
    intro x0
    go_wp2_with fail
    refine (HMn.out _ (by (repeat' (first | (with_reducible exact Below.refl _ _) | (with_reducible assumption) | (with_reducible refine Below.alloc ?_ ?_ _) | (with_reducible refine Below.drew ?_) | (with_reducible refine below_drewN ?_ _) | (with_reducible refine Below.setCell ?_ ?_ _) | (with_reducible refine below_after ?_ ?_ _) | (with_reducible refine below_set ?_) | (with_reducible refine After.size_le _ ?_) | (with_reducible refine size_alloc_le ?_) | (with_reducible refine size_set_le ?_) | (with_reducible refine size_drewN_le ?_) | go_size)))).mono ?_
    rintro e w1 ⟨⟨b, rfl, hbb⟩, hb1⟩
    obtain ⟨x1, rfl⟩ := after_ip (x0.out.trans (hb1.mono x0.out.size))
    clear hb1
    cases b
    · exact absurd (hbb rfl).1 h80
    · go_wp2
      go_ret
      exact ⟨rfl, by (repeat' (first | (with_reducible exact Below.refl _ _) | (with_reducible assumption) | (with_reducible refine Below.alloc ?_ ?_ _) | (with_reducible refine Below.drew ?_) | (with_reducible refine below_drewN ?_ _) | (with_reducible refine Below.setCell ?_ ?_ _) | (with_reducible refine below_after ?_ ?_ _) | (with_reducible refine below_set ?_) | (with_reducible refine After.size_le _ ?_) | (with_reducible refine size_alloc_le ?_) | (with_reducible refine size_set_le ?_) | (with_reducible refine size_drewN_le ?_) | go_size))⟩
end
end Go.Proofs.YtkgfaemdgmmdkaaGreatDoor.Gx
