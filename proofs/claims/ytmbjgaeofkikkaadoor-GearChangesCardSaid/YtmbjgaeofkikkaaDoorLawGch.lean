/- GearChanges: the law's walk. -/
import Derived.Test.YtmbjgaeofkikkaaDoorGit2
import Derived.Test.YtmbjgaeofkikkaaDoorGmy
import Derived.Test.YtmbjgaeofkikkaaDoorGaw
namespace Go.Proofs.YtmbjgaeofkikkaaDoor
open Go.RowKit
attribute [local go_sem] After.cell After.frozen After.lt After.le After.ne After.ne' After.set_eq After.size_set After.lt_add tx_size tx_toList

theorem after_og2 {W W' : World} (h : Below W.heap.size W W') : ∃ y : After W, W' = y.w := ⟨⟨W', h⟩, rfl⟩
def zrI (c : Int) (n : Nat) : Nat := if c = 0 then n else 0
theorem zrI_le (c : Int) (n : Nat) : zrI c n ≤ n := by unfold zrI; split <;> omega
theorem LkA.val {n : Nat} {gm : Nat → List UInt8} {gl gd : Nat → Int} {gb : Nat → List UInt8} {o : Option Nat} {d c : Int} {W : World} {e : Ending} (h : LkA n gm gl gd gb o d c W e) :
    ∃ a' c', e = .returned (.tuple #[.slice a' (zrI c n) c', .int .i64 c]) ∧ ItAt W a' (zrI c n) gm gl (updF gd (o.getD 0) d) gb := by
  rcases h with ⟨h, rfl⟩ | ⟨rfl, i, a', c', rfl, _, rfl, _, h⟩
  · have e : zrI c n = 0 := by unfold zrI; rw [if_neg h]
    rw [e]
    exact ⟨none, 0, rfl, fun k hk => by omega⟩
  · exact ⟨a', c', rfl, h⟩
theorem SwA.val {m : Nat} {lm : Nat → List UInt8} {lf : Nat → Int} {x : List UInt8} {k c : Int} {W : World} {e : Ending} (h : SwA m lm lf x k c W e) :
    ∃ a' c', e = .returned (.tuple #[.slice a' (zrI c m) c', .int .i64 c]) ∧ zrI c m ≤ c' ∧ LkAt W a' (zrI c m) (updF lm k.toNat x) lf := by
  rcases h with ⟨h, rfl⟩ | ⟨rfl, i, a', c', rfl, _, rfl, hc, h⟩
  · have e : zrI c m = 0 := by unfold zrI; rw [if_neg h]
    rw [e]
    exact ⟨none, 0, rfl, by omega, fun k hk => by omega⟩
  · exact ⟨a', c', rfl, hc, h⟩
theorem vr_swap {n m : Nat} {gm lm : Nat → List UInt8} {lf : Nat → Int} {b : Bool} {k : Int} {x : List UInt8} (h : swE (b && vrB n m gm lm lf) m k (fdN gm n x) (fdN lm m x) = 0) : b = true ∧ vrB n m gm (updF lm k.toNat x) lf = true := by
  unfold swE at h
  cases hb : (b && vrB n m gm lm lf) with
  | false => rw [hb] at h; simp at h
  | true =>
    rw [hb] at h
    simp only [Bool.and_eq_true] at hb
    rw [if_pos rfl] at h
    by_cases hk : Btw k 0 ((m : Int) - 1)
    · rw [if_pos hk] at h
      cases ho : fdN gm n x with
      | none => rw [ho] at h; simp at h
      | some j =>
        rw [ho] at h
        cases hh : fdN lm m x with
        | some q => rw [hh] at h; simp at h
        | none =>
          have hno := fdN_none.1 hh
          have hv := vrB_of hb.2
          refine ⟨hb.1, vrB_true ⟨hv.1, fun t ht => ?_⟩⟩
          obtain ⟨v1, v2, v3⟩ := hv.2 t ht
          have hno3 := fdN_none.1 v3
          generalize k.toNat = i
          refine ⟨?_, v2, fdN_none.2 fun q hq => ?_⟩
          · unfold updF
            by_cases e : t = i
            · rw [if_pos e, ho]; simp
            · rw [if_neg e]; exact v1
          · unfold updF
            by_cases e : t = i
            · rw [if_pos e, if_neg (by omega)]
              exact hno q (by omega)
            · rw [if_neg e]
              by_cases e2 : q = i
              · rw [if_pos e2]; exact fun e3 => hno t ht e3.symm
              · rw [if_neg e2]; exact hno3 q hq
    · rw [if_neg hk] at h; simp at h
set_option maxRecDepth 100000 in
set_option maxHeartbeats 4000000 in
theorem gearChanges_any (a : Option Addr) (n cap : Nat) (gm : Nat → List UInt8) (gl gd : Nat → Int) (gb : Nat → List UInt8) (al : Option Addr) (m capl : Nat) (lm : Nat → List UInt8) (lf : Nat → Int) (link due : Int) (mark : List UInt8) (w : World) (hA : ItAt w a n gm gl gd gb) (hL : LkAt w al m lm lf) (hn : n ≤ 9223372036854775807) (hm : m ≤ 9223372036854775807) (hcapn : n ≤ cap) (hcap : m ≤ capl) (h1 : Sht n gm) (h2 : Sht n gb) (h3 : Sht m lm) (h4 : mark.length ≤ 9223372036854775807) :
    Calls Tryd.prog 9 #[.slice a n cap, .slice al m capl, .int .i64 link, .int .i64 due, .string (tx mark)] w fun e w' => e = .returned (.bool true) ∧ Below w.heap.size w w' := by
  have HM := Lib.hid (fun W (hW : Below w.heap.size w W) => many_any a n cap gm gl gd gb al m capl lm lf W (hA.on hW) (hL.on hW) hn hm)
  have P1 := Lib.hid (fun W (hW : Below w.heap.size w W) hn => looked_any a n cap gm gl gd gb W (hA.on hW) hn hcapn h1 h2 mark h4 due)
  have R1 := Lib.hid (fun W (hW : Below w.heap.size w W) hn => rlooked_any a n cap gm gl gd gb W (hA.on hW) hn h1 h2 mark due)
  have P2 := Lib.hid (fun W (hW : Below w.heap.size w W) hn hm => swapped_any a n cap gm gl gd gb al m capl lm lf W (hA.on hW) (hL.on hW) hn hm hcap h1 h2 h3 link mark h4)
  have R2 := Lib.hid (fun W (hW : Below w.heap.size w W) hn hm => rswapped_any a n cap gm gl gd gb al m capl lm lf W (hA.on hW) (hL.on hW) hn hm hcap h1 h2 h3 link mark)
  have h3' : Sht m (updF lm link.toNat mark) := fun k hk => by
    unfold updF; split
    · exact h4
    · exact h3 k hk
  have P3 := Lib.hid (fun a' c' W (hW : Below w.heap.size w W) (hI : LkAt W a' m (updF lm link.toNat mark) lf) (hc : m ≤ c') hn hm => validRig_say a n cap gm gl gd gb a' m c' (updF lm link.toNat mark) lf W (hA.on hW) hI hn hm hc h1 h2 h3')
  have hsw : swE (vgB n gm gl gd gb && vrB n m gm lm lf) m link (fdN gm n mark) (fdN lm m mark) = 0 → (vgB n gm gl gd gb && vrB n m gm (updF lm link.toNat mark) lf) = true := fun h => by
    obtain ⟨q1, q2⟩ := vr_swap h
    rw [q1, q2]; rfl
  have HSwp := Lib.hid hsw
  clear hsw
  clear hA hL h1 h2 h3 h3'
  generalize (vgB n gm gl gd gb && vrB n m gm (updF lm link.toNat mark) lf) = b3 at *
  generalize lkE (vgB n gm gl gd gb) (fdN gm n mark) due = c1 at *
  generalize swE (vgB n gm gl gd gb && vrB n m gm lm lf) m link (fdN gm n mark) (fdN lm m mark) = c2 at *
  have hmk : ((mark.length : Nat) : Int) ≤ 9223372036854775807 := by omega
  clear hn hm hcap h4 hcapn
  go_enter Tryd.func9, Tryd.ntmps9
  go_wp2_with fail
  refine calls_after (awake_any _) ?_
  intro x1
  go_wp2_with fail
  refine (HM.out _ (by (repeat' (first | (with_reducible exact Below.refl _ _) | (with_reducible assumption) | (with_reducible refine Below.alloc ?_ ?_ _) | (with_reducible refine Below.drew ?_) | (with_reducible refine below_drewN ?_ _) | (with_reducible refine Below.setCell ?_ ?_ _) | (with_reducible refine below_after ?_ ?_ _) | (with_reducible refine below_set ?_) | (with_reducible refine After.size_le _ ?_) | (with_reducible refine size_alloc_le ?_) | (with_reducible refine size_set_le ?_) | (with_reducible refine size_drewN_le ?_) | go_size)))).mono ?_
  rintro e w2 ⟨⟨b, rfl, hbb⟩, hb2⟩
  obtain ⟨x2, rfl⟩ := after_og2 (x1.out.trans (hb2.mono x1.out.size))
  have HBB := Lib.hid hbb
  clear hb2 hbb HM
  cases b
  · have hnm := HBB.out rfl
    have hn1 : n ≤ 1000 := by omega
    have hm1 : m ≤ 1000 := by omega
    have Hnm := Lib.hid (And.intro hn1 hm1)
    have hz1 : zrI c1 n ≤ 1000 := Nat.le_trans (zrI_le c1 n) hn1
    have hz2 : zrI c2 m ≤ 1000 := Nat.le_trans (zrI_le c2 m) hm1
    have Hz1 := Lib.hid hz1
    have hz2I : ((zrI c2 m : Nat) : Int) ≤ 1000 := by omega
    clear hnm hn1 hm1 HBB hz1
    by_cases h100 : (100 : Int) < (mark.length : Int)
    · go_wp2
      go_ret
      exact ⟨rfl, by (repeat' (first | (with_reducible exact Below.refl _ _) | (with_reducible assumption) | (with_reducible refine Below.alloc ?_ ?_ _) | (with_reducible refine Below.drew ?_) | (with_reducible refine below_drewN ?_ _) | (with_reducible refine Below.setCell ?_ ?_ _) | (with_reducible refine below_after ?_ ?_ _) | (with_reducible refine below_set ?_) | (with_reducible refine After.size_le _ ?_) | (with_reducible refine size_alloc_le ?_) | (with_reducible refine size_set_le ?_) | (with_reducible refine size_drewN_le ?_) | go_size))⟩
    · go_wp2_with fail
      refine (P1.out _ (by (repeat' (first | (with_reducible exact Below.refl _ _) | (with_reducible assumption) | (with_reducible refine Below.alloc ?_ ?_ _) | (with_reducible refine Below.drew ?_) | (with_reducible refine below_drewN ?_ _) | (with_reducible refine Below.setCell ?_ ?_ _) | (with_reducible refine below_after ?_ ?_ _) | (with_reducible refine below_set ?_) | (with_reducible refine After.size_le _ ?_) | (with_reducible refine size_alloc_le ?_) | (with_reducible refine size_set_le ?_) | (with_reducible refine size_drewN_le ?_) | go_size))) Hnm.out.1).mono ?_
      rintro e w3 ⟨hr, hb3⟩
      obtain ⟨a1, k1, rfl, hi1⟩ := hr.val
      obtain ⟨x3, rfl⟩ := after_og2 (x2.out.trans (hb3.mono x2.out.size))
      have HI1 := Lib.hid hi1
      clear hb3 hr hi1 P1
      go_wp2_with fail
      refine (R1.out _ (by (repeat' (first | (with_reducible exact Below.refl _ _) | (with_reducible assumption) | (with_reducible refine Below.alloc ?_ ?_ _) | (with_reducible refine Below.drew ?_) | (with_reducible refine below_drewN ?_ _) | (with_reducible refine Below.setCell ?_ ?_ _) | (with_reducible refine below_after ?_ ?_ _) | (with_reducible refine below_set ?_) | (with_reducible refine After.size_le _ ?_) | (with_reducible refine size_alloc_le ?_) | (with_reducible refine size_set_le ?_) | (with_reducible refine size_drewN_le ?_) | go_size))) Hnm.out.1).mono ?_
      rintro e w4 ⟨hr, hb4⟩
      obtain ⟨a2, k2, rfl, hi2⟩ := hr.val
      have HIa := Lib.hid (HI1.out.on hb4)
      have HIb := Lib.hid hi2
      obtain ⟨x4, rfl⟩ := after_og2 (x3.out.trans (hb4.mono x3.out.size))
      clear hb4 hr hi2 R1 HI1
      go_wp2_with fail
      refine calls_after2 (items_any _ _ _ _ _ _ _ _ _ _ HIa.out HIb.out Hz1.out) ?_
      intro x5
      clear HIa HIb
      go_wp2_with fail
      refine (P2.out _ (by (repeat' (first | (with_reducible exact Below.refl _ _) | (with_reducible assumption) | (with_reducible refine Below.alloc ?_ ?_ _) | (with_reducible refine Below.drew ?_) | (with_reducible refine below_drewN ?_ _) | (with_reducible refine Below.setCell ?_ ?_ _) | (with_reducible refine below_after ?_ ?_ _) | (with_reducible refine below_set ?_) | (with_reducible refine After.size_le _ ?_) | (with_reducible refine size_alloc_le ?_) | (with_reducible refine size_set_le ?_) | (with_reducible refine size_drewN_le ?_) | go_size))) Hnm.out.1 Hnm.out.2).mono ?_
      rintro e w6 ⟨hr, hb6⟩
      obtain ⟨a3, k3, rfl, hk3, hi3⟩ := hr.val
      obtain ⟨x6, rfl⟩ := after_og2 (x5.out.trans (hb6.mono x5.out.size))
      have HI3 := Lib.hid hi3
      have HK3 := Lib.hid hk3
      clear hb6 hr hi3 hk3 P2
      go_wp2_with fail
      refine (R2.out _ (by (repeat' (first | (with_reducible exact Below.refl _ _) | (with_reducible assumption) | (with_reducible refine Below.alloc ?_ ?_ _) | (with_reducible refine Below.drew ?_) | (with_reducible refine below_drewN ?_ _) | (with_reducible refine Below.setCell ?_ ?_ _) | (with_reducible refine below_after ?_ ?_ _) | (with_reducible refine below_set ?_) | (with_reducible refine After.size_le _ ?_) | (with_reducible refine size_alloc_le ?_) | (with_reducible refine size_set_le ?_) | (with_reducible refine size_drewN_le ?_) | go_size))) Hnm.out.1 Hnm.out.2).mono ?_
      rintro e w7 ⟨hr, hb7⟩
      obtain ⟨a4, k4, rfl, _, hi4⟩ := hr.val
      have HIc := Lib.hid (HI3.out.on hb7)
      have HId := Lib.hid hi4
      obtain ⟨x7, rfl⟩ := after_og2 (x6.out.trans (hb7.mono x6.out.size))
      clear hb7 hr hi4 R2 HI3
      go_wp2
      go_loopw [17] (fun i W => ∃ k : Nat, k ≤ zrI c2 m ∧ i = .int .i64 k ∧ ∃ x : After x7.w, W = x.w) (fun i _ => zrI c2 m - (intOf i).toNat)
      case atStart => exact ⟨0, Nat.zero_le _, rfl, ⟨x7.w, Below.refl _ _⟩, rfl⟩
      case round =>
        obtain ⟨k, hk, rfl, x, rfl⟩ := hrel
        by_cases hlt : k < zrI c2 m
        · have hlti : (k : Int) < ((zrI c2 m : Nat) : Int) := by omega
          obtain ⟨b, off, rfl, hb, p0, p1⟩ := HIc.out k hlt
          obtain ⟨b2, off2, rfl, hb2, d0, d1⟩ := HId.out k hlt
          generalize updF lm link.toNat mark k = z0 at *
          generalize lf k = z1 at *
          go_wp2
          refine wp_region_after (by kernel_rfl) (by kernel_rfl) ?_; (repeat (first | go_big_quiet_step ((fail)) | (refine wpQuiet_step (fun K hK => ?_); go_simp; first | (refine hK _ ?_; clear hK K) | (apply Exists.intro; refine ⟨fun x => ?_, hK _ ?_⟩; (fail); clear hK K)))); refine wpQuiet_nil ?_
          intro y
          go_wp2
          go_roundw
          case rel => exact ⟨k + 1, by omega, by go_num, ⟨_, x.out.trans (y.out.mono x.out.size)⟩, rfl⟩
          case measure => simp [intOf]; omega
        · obtain rfl : k = zrI c2 m := by omega
          by_cases h0 : c2 = 0
          · subst h0
            have ez : zrI 0 m = m := rfl
            have h3t := HSwp.out rfl
            have HP := Lib.hid (P3.out a3 k3 x.w (by (repeat' (first | (with_reducible exact Below.refl _ _) | (with_reducible assumption) | (with_reducible refine Below.alloc ?_ ?_ _) | (with_reducible refine Below.drew ?_) | (with_reducible refine below_drewN ?_ _) | (with_reducible refine Below.setCell ?_ ?_ _) | (with_reducible refine below_after ?_ ?_ _) | (with_reducible refine below_set ?_) | (with_reducible refine After.size_le _ ?_) | (with_reducible refine size_alloc_le ?_) | (with_reducible refine size_set_le ?_) | (with_reducible refine size_drewN_le ?_) | go_size))) (by have := HIc.out.on x.out; rwa [ez] at this) (by have := HK3.out; rwa [ez] at this) Hnm.out.1 Hnm.out.2)
            rw [h3t, ← ez] at HP
            clear h3t P3 HSwp hk hlt
            go_wp2_with fail
            refine calls_after2 HP.out ?_
            intro x9
            go_wp2
            go_ret
            exact ⟨rfl, by (repeat' (first | (with_reducible exact Below.refl _ _) | (with_reducible assumption) | (with_reducible refine Below.alloc ?_ ?_ _) | (with_reducible refine Below.drew ?_) | (with_reducible refine below_drewN ?_ _) | (with_reducible refine Below.setCell ?_ ?_ _) | (with_reducible refine below_after ?_ ?_ _) | (with_reducible refine below_set ?_) | (with_reducible refine After.size_le _ ?_) | (with_reducible refine size_alloc_le ?_) | (with_reducible refine size_set_le ?_) | (with_reducible refine size_drewN_le ?_) | go_size))⟩
          · have hne : (c2 != 0) = true := by simp [h0]
            clear h0
            go_wp2
            go_ret
            exact ⟨rfl, by (repeat' (first | (with_reducible exact Below.refl _ _) | (with_reducible assumption) | (with_reducible refine Below.alloc ?_ ?_ _) | (with_reducible refine Below.drew ?_) | (with_reducible refine below_drewN ?_ _) | (with_reducible refine Below.setCell ?_ ?_ _) | (with_reducible refine below_after ?_ ?_ _) | (with_reducible refine below_set ?_) | (with_reducible refine After.size_le _ ?_) | (with_reducible refine size_alloc_le ?_) | (with_reducible refine size_set_le ?_) | (with_reducible refine size_drewN_le ?_) | go_size))⟩
  · go_wp2
    go_ret
    exact ⟨rfl, by (repeat' (first | (with_reducible exact Below.refl _ _) | (with_reducible assumption) | (with_reducible refine Below.alloc ?_ ?_ _) | (with_reducible refine Below.drew ?_) | (with_reducible refine below_drewN ?_ _) | (with_reducible refine Below.setCell ?_ ?_ _) | (with_reducible refine below_after ?_ ?_ _) | (with_reducible refine below_set ?_) | (with_reducible refine After.size_le _ ?_) | (with_reducible refine size_alloc_le ?_) | (with_reducible refine size_set_le ?_) | (with_reducible refine size_drewN_le ?_) | go_size))⟩
end Go.Proofs.YtmbjgaeofkikkaaDoor
