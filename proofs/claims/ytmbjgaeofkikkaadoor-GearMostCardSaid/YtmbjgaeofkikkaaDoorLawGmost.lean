/- GearMost: the law's walk. -/
import Derived.Test.YtmbjgaeofkikkaaDoorGwg
import Derived.Test.YtmbjgaeofkikkaaDoorGmy
import Derived.Test.YtmbjgaeofkikkaaDoorGaw
namespace Go.Proofs.YtmbjgaeofkikkaaDoor
open Go.RowKit
attribute [local go_sem] After.cell After.frozen After.lt After.le After.ne After.ne' After.set_eq After.size_set After.lt_add tx_size tx_toList

theorem after_og6 {W W' : World} (h : Below W.heap.size W W') : ∃ y : After W, W' = y.w := ⟨⟨W', h⟩, rfl⟩
theorem ZnR.val {b : Bool} {L : List Int} {W : World} {e : Ending} (h : ZnR b L W e) : ∃ a' c' nz lz, e = .returned (.tuple #[.slice a' nz c', .int .i64 (erB b)]) ∧ ZAt W (.slice a' nz c') lz ∧ nz = lz.length ∧ lz = (if b then L else []) := by
  cases b
  · exact ⟨none, 0, 0, [], h, ⟨none, 0, rfl, fun i hi => by simp at hi⟩, rfl, rfl⟩
  · obtain ⟨v, e1, hz⟩ := h
    have hz' := hz
    obtain ⟨a', c', rfl, _⟩ := hz
    exact ⟨a', c', _, L, e1, hz', rfl, rfl⟩
theorem ZAt.gat {W : World} {a : Option Addr} {n cap : Nat} {L : List Int} (h : ZAt W (.slice a n cap) L) : GAt W a L.length (fun i => L.getD i 0) ∧ n = L.length := by
  obtain ⟨a', c', e, h1⟩ := h
  cases e
  exact ⟨fun k hk => h1 k hk, rfl⟩
set_option maxRecDepth 100000 in
set_option maxHeartbeats 4000000 in
theorem gearMost_any (a : Option Addr) (n cap : Nat) (gm : Nat → List UInt8) (gl gd : Nat → Int) (gb : Nat → List UInt8) (al : Option Addr) (m capl : Nat) (lm : Nat → List UInt8) (lf : Nat → Int) (en : Int) (aq : Option Addr) (nq cq : Nat) (lo : Nat → Int) (w : World) (hA : ItAt w a n gm gl gd gb) (hL : LkAt w al m lm lf) (hQ : GAt w aq nq lo) (hn : n ≤ 9223372036854775807) (hm : m ≤ 9223372036854775807) (hnq : nq ≤ 9223372036854775807) (hcap : m ≤ capl) (h1 : Sht n gm) (h2 : Sht n gb) (h3 : Sht m lm) :
    Calls Tryd.prog 6 #[.slice a n cap, .slice al m capl, .int .i64 en, .slice aq nq cq] w fun e w' => e = .returned (.bool true) ∧ Below w.heap.size w w' := by
  have HM := Lib.hid (fun W (hW : Below w.heap.size w W) => many_any a n cap gm gl gd gb al m capl lm lf W (hA.on hW) (hL.on hW) hn hm)
  have P1 := Lib.hid (fun W (hW : Below w.heap.size w W) hn hm => most_any a n cap gm gl gd gb al m capl lm lf W (hA.on hW) (hL.on hW) hn hm hcap h1 h2 h3 en)
  have R1 := Lib.hid (fun W (hW : Below w.heap.size w W) hn hm => rmost_any a n cap gm gl gd gb al m capl lm lf W (hA.on hW) (hL.on hW) hn hm hcap h1 h2 h3 en)
  have P2 := Lib.hid (fun W (hW : Below w.heap.size w W) hn hm => until_any a n cap gm gl gd gb al m capl lm lf W (hA.on hW) (hL.on hW) hn hm hcap h1 h2 h3)
  have R2 := Lib.hid (fun W (hW : Below w.heap.size w W) hn hm => runtil_any a n cap gm gl gd gb al m capl lm lf W (hA.on hW) (hL.on hW) hn hm hcap h1 h2 h3)
  have P3 := Lib.hid (fun W (hW : Below w.heap.size w W) hn hm => greatest_say a n cap gm gl gd gb al m capl lm lf W (hA.on hW) (hL.on hW) hn hm hcap h1 h2 h3)
  have R3 := Lib.hid (fun W (hW : Below w.heap.size w W) hn hm => rgreatest_say a n cap gm gl gd gb al m capl lm lf W (hA.on hW) (hL.on hW) hn hm hcap h1 h2 h3)
  have P4 := Lib.hid (fun W (hW : Below w.heap.size w W) hn hm => shares_say a n cap gm gl gd gb al m capl lm lf W (hA.on hW) (hL.on hW) hn hm hcap h1 h2 h3)
  have R4 := Lib.hid (fun W (hW : Below w.heap.size w W) hn hm => rshares_say a n cap gm gl gd gb al m capl lm lf W (hA.on hW) (hL.on hW) hn hm hcap h1 h2 h3)
  have HW := Lib.hid (fun aq' nq' cq' lo' W (hW : Below w.heap.size w W) (hq : GAt W aq' nq' lo') hn hm h4 hb => weighs_any a n cap gm gl gd gb al m capl lm lf aq' nq' cq' lo' W (hA.on hW) (hL.on hW) hq hn hm hcap h1 h2 h3 h4 hb)
  have HQ := Lib.hid hQ
  have HG : Hid ((vgB n gm gl gd gb && vrB n m gm lm lf) = true → (shL n gm lm gl m lf).sum = gtN (fun i => gl (ixO n gm lm i)) lf m m 0) := Lib.hid (fun h => (shares_facts h).2.2)
  have HFa : Hid ((vgB n gm gl gd gb && vrB n m gm lm lf) = true → WgF m (shL n gm lm gl m lf).length lf (fun i => (shL n gm lm gl m lf).getD i 0) (fun i => gl (ixO n gm lm i)) ∧ boN lf m (owN (fun i => (shL n gm lm gl m lf).getD i 0) (thN (enB m lf) m) (shL n gm lm gl m lf).length) 0 = (shL n gm lm gl m lf).sum) := Lib.hid (fun h => ⟨(shares_facts h).1, (shares_facts h).2.1⟩)
  have HOt : Hid ((vgB n gm gl gd gb && vrB n m gm lm lf) = true → WgF m nq lf lo (fun i => gl (ixO n gm lm i)) → boN lf m (owN lo (thN (enB m lf) m) nq) 0 ≤ (shL n gm lm gl m lf).sum) := Lib.hid (fun h hf => other_le h hf)
  have HSl := Lib.hid (shL_len n gm lm gl m lf)
  clear hA hL hQ h1 h2 h3
  have hqI : ((nq : Nat) : Int) ≤ 9223372036854775807 := by omega
  clear hn hm hcap hnq
  generalize hc : (vgB n gm gl gd gb && vrB n m gm lm lf) = c at *
  clear hc
  generalize shL n gm lm gl m lf = L at *
  generalize moV c n gm lm gl m lf en = mv at *
  generalize moE c m lf en = me at *
  generalize unN c n gm lm gd m = uv at *
  go_enter Tryd.func6, Tryd.ntmps6
  go_wp2_with fail
  refine calls_after (awake_any _) ?_
  intro x1
  go_wp2_with fail
  refine (HM.out _ (by (repeat' (first | (with_reducible exact Below.refl _ _) | (with_reducible assumption) | (with_reducible refine Below.alloc ?_ ?_ _) | (with_reducible refine Below.drew ?_) | (with_reducible refine below_drewN ?_ _) | (with_reducible refine Below.setCell ?_ ?_ _) | (with_reducible refine below_after ?_ ?_ _) | (with_reducible refine below_set ?_) | (with_reducible refine After.size_le _ ?_) | (with_reducible refine size_alloc_le ?_) | (with_reducible refine size_set_le ?_) | (with_reducible refine size_drewN_le ?_) | go_size)))).mono ?_
  rintro e w2 ⟨⟨b, rfl, hbb⟩, hb2⟩
  obtain ⟨x2, rfl⟩ := after_og6 (x1.out.trans (hb2.mono x1.out.size))
  have HBB := Lib.hid hbb
  clear hb2 hbb HM
  cases b
  · have hnm := HBB.out rfl
    have hn1 : n ≤ 1000 := by omega
    have hm1 : m ≤ 1000 := by omega
    have Hnm := Lib.hid (And.intro hn1 hm1)
    clear hnm hn1 hm1 HBB
    by_cases h40 : (40 : Int) < (nq : Int)
    · go_wp2
      go_ret
      exact ⟨rfl, by (repeat' (first | (with_reducible exact Below.refl _ _) | (with_reducible assumption) | (with_reducible refine Below.alloc ?_ ?_ _) | (with_reducible refine Below.drew ?_) | (with_reducible refine below_drewN ?_ _) | (with_reducible refine Below.setCell ?_ ?_ _) | (with_reducible refine below_after ?_ ?_ _) | (with_reducible refine below_set ?_) | (with_reducible refine After.size_le _ ?_) | (with_reducible refine size_alloc_le ?_) | (with_reducible refine size_set_le ?_) | (with_reducible refine size_drewN_le ?_) | go_size))⟩
    · have Hq := Lib.hid (show nq ≤ 1000 by omega)
      have Hl : Hid (L.length ≤ 1000) := Lib.hid (Nat.le_trans HSl.out Hnm.out.2)
      go_wp2_with fail
      refine calls_after2 (P1.out _ (by (repeat' (first | (with_reducible exact Below.refl _ _) | (with_reducible assumption) | (with_reducible refine Below.alloc ?_ ?_ _) | (with_reducible refine Below.drew ?_) | (with_reducible refine below_drewN ?_ _) | (with_reducible refine Below.setCell ?_ ?_ _) | (with_reducible refine below_after ?_ ?_ _) | (with_reducible refine below_set ?_) | (with_reducible refine After.size_le _ ?_) | (with_reducible refine size_alloc_le ?_) | (with_reducible refine size_set_le ?_) | (with_reducible refine size_drewN_le ?_) | go_size))) Hnm.out.1 Hnm.out.2) ?_
      intro x3
      go_wp2_with fail
      refine calls_after2 (R1.out _ (by (repeat' (first | (with_reducible exact Below.refl _ _) | (with_reducible assumption) | (with_reducible refine Below.alloc ?_ ?_ _) | (with_reducible refine Below.drew ?_) | (with_reducible refine below_drewN ?_ _) | (with_reducible refine Below.setCell ?_ ?_ _) | (with_reducible refine below_after ?_ ?_ _) | (with_reducible refine below_set ?_) | (with_reducible refine After.size_le _ ?_) | (with_reducible refine size_alloc_le ?_) | (with_reducible refine size_set_le ?_) | (with_reducible refine size_drewN_le ?_) | go_size))) Hnm.out.1 Hnm.out.2) ?_
      intro x4
      clear P1 R1
      go_wp2_with fail
      refine calls_after2 (P2.out _ (by (repeat' (first | (with_reducible exact Below.refl _ _) | (with_reducible assumption) | (with_reducible refine Below.alloc ?_ ?_ _) | (with_reducible refine Below.drew ?_) | (with_reducible refine below_drewN ?_ _) | (with_reducible refine Below.setCell ?_ ?_ _) | (with_reducible refine below_after ?_ ?_ _) | (with_reducible refine below_set ?_) | (with_reducible refine After.size_le _ ?_) | (with_reducible refine size_alloc_le ?_) | (with_reducible refine size_set_le ?_) | (with_reducible refine size_drewN_le ?_) | go_size))) Hnm.out.1 Hnm.out.2) ?_
      intro x5
      go_wp2_with fail
      refine calls_after2 (R2.out _ (by (repeat' (first | (with_reducible exact Below.refl _ _) | (with_reducible assumption) | (with_reducible refine Below.alloc ?_ ?_ _) | (with_reducible refine Below.drew ?_) | (with_reducible refine below_drewN ?_ _) | (with_reducible refine Below.setCell ?_ ?_ _) | (with_reducible refine below_after ?_ ?_ _) | (with_reducible refine below_set ?_) | (with_reducible refine After.size_le _ ?_) | (with_reducible refine size_alloc_le ?_) | (with_reducible refine size_set_le ?_) | (with_reducible refine size_drewN_le ?_) | go_size))) Hnm.out.1 Hnm.out.2) ?_
      intro x6
      clear P2 R2
      have hgs : (if c = true then gtN (fun i => gl (ixO n gm lm i)) lf m m 0 else 0) = gsN c L := by
        cases c
        · rfl
        · exact (HG.out rfl).symm
      rw [hgs] at R3
      clear hgs HG
      go_wp2_with fail
      refine calls_after2 (P3.out _ (by (repeat' (first | (with_reducible exact Below.refl _ _) | (with_reducible assumption) | (with_reducible refine Below.alloc ?_ ?_ _) | (with_reducible refine Below.drew ?_) | (with_reducible refine below_drewN ?_ _) | (with_reducible refine Below.setCell ?_ ?_ _) | (with_reducible refine below_after ?_ ?_ _) | (with_reducible refine below_set ?_) | (with_reducible refine After.size_le _ ?_) | (with_reducible refine size_alloc_le ?_) | (with_reducible refine size_set_le ?_) | (with_reducible refine size_drewN_le ?_) | go_size))) Hnm.out.1 Hnm.out.2) ?_
      intro x7
      go_wp2_with fail
      refine calls_after2 (R3.out _ (by (repeat' (first | (with_reducible exact Below.refl _ _) | (with_reducible assumption) | (with_reducible refine Below.alloc ?_ ?_ _) | (with_reducible refine Below.drew ?_) | (with_reducible refine below_drewN ?_ _) | (with_reducible refine Below.setCell ?_ ?_ _) | (with_reducible refine below_after ?_ ?_ _) | (with_reducible refine below_set ?_) | (with_reducible refine After.size_le _ ?_) | (with_reducible refine size_alloc_le ?_) | (with_reducible refine size_set_le ?_) | (with_reducible refine size_drewN_le ?_) | go_size))) Hnm.out.1 Hnm.out.2) ?_
      intro x8
      clear P3 R3
      go_wp2_with fail
      refine (P4.out _ (by (repeat' (first | (with_reducible exact Below.refl _ _) | (with_reducible assumption) | (with_reducible refine Below.alloc ?_ ?_ _) | (with_reducible refine Below.drew ?_) | (with_reducible refine below_drewN ?_ _) | (with_reducible refine Below.setCell ?_ ?_ _) | (with_reducible refine below_after ?_ ?_ _) | (with_reducible refine below_set ?_) | (with_reducible refine After.size_le _ ?_) | (with_reducible refine size_alloc_le ?_) | (with_reducible refine size_set_le ?_) | (with_reducible refine size_drewN_le ?_) | go_size))) Hnm.out.1 Hnm.out.2).mono ?_
      rintro e w3 ⟨hr, hb3⟩
      obtain ⟨a1, k1, n1, l1, rfl, hz1, he1, hf1⟩ := hr.val
      obtain ⟨x9, rfl⟩ := after_og6 (x8.out.trans (hb3.mono x8.out.size))
      have HZ1 := Lib.hid hz1
      have HE1 := Lib.hid he1
      clear hb3 hr hz1 he1 P4
      go_wp2_with fail
      refine (R4.out _ (by (repeat' (first | (with_reducible exact Below.refl _ _) | (with_reducible assumption) | (with_reducible refine Below.alloc ?_ ?_ _) | (with_reducible refine Below.drew ?_) | (with_reducible refine below_drewN ?_ _) | (with_reducible refine Below.setCell ?_ ?_ _) | (with_reducible refine below_after ?_ ?_ _) | (with_reducible refine below_set ?_) | (with_reducible refine After.size_le _ ?_) | (with_reducible refine size_alloc_le ?_) | (with_reducible refine size_set_le ?_) | (with_reducible refine size_drewN_le ?_) | go_size))) Hnm.out.1 Hnm.out.2).mono ?_
      rintro e w4 ⟨hr, hb4⟩
      obtain ⟨a2, k2, n2, l2, rfl, hz2, he2, hf2⟩ := hr.val
      obtain rfl : l2 = l1 := by rw [hf1, hf2]
      have HZa := Lib.hid (HZ1.out.on hb4)
      have HZb := Lib.hid hz2
      obtain ⟨x10, rfl⟩ := after_og6 (x9.out.trans (hb4.mono x9.out.size))
      clear hb4 hr hz2 he2 hf2 R4 HZ1
      have hl1 : l2.length ≤ 100000 := by
        rw [hf1]
        cases c
        · simp
        · have := Hl.out; rw [if_pos rfl]; omega
      have Hl1 := Lib.hid hl1
      clear hl1
      go_wp2_with fail
      refine (sameZ_any HZa.out HZb.out Hl1.out).mono ?_
      rintro e w5 ⟨rfl, hb5⟩
      have HZ5 := Lib.hid (HZa.out.on hb5)
      obtain ⟨x11, rfl⟩ := after_og6 (x10.out.trans (hb5.mono x10.out.size))
      clear HZa HZb hb5 Hl1
      cases c
      · unfold erB
        go_wp2
        go_ret
        exact ⟨rfl, by (repeat' (first | (with_reducible exact Below.refl _ _) | (with_reducible assumption) | (with_reducible refine Below.alloc ?_ ?_ _) | (with_reducible refine Below.drew ?_) | (with_reducible refine below_drewN ?_ _) | (with_reducible refine Below.setCell ?_ ?_ _) | (with_reducible refine below_after ?_ ?_ _) | (with_reducible refine below_set ?_) | (with_reducible refine After.size_le _ ?_) | (with_reducible refine size_alloc_le ?_) | (with_reducible refine size_set_le ?_) | (with_reducible refine size_drewN_le ?_) | go_size))⟩
      · rw [if_pos rfl] at hf1
        subst hf1
        obtain ⟨hg, hn⟩ := HZ5.out.gat
        obtain ⟨hwf, hws⟩ := HFa.out rfl
        have HO := Lib.hid (HOt.out rfl)
        have HGt := Lib.hid hg
        have HWf := Lib.hid (And.intro hwf hws)
        clear hg hwf hws HFa HOt HE1 HZ5
        subst hn
        have HW1 := Lib.hid (fun W (hW : Below x11.w.heap.size x11.w W) (hB : Below w.heap.size w W) => HW.out a1 l2.length k1 _ W hB (HGt.out.on hW) Hnm.out.1 Hnm.out.2 Hl.out rfl)
        have HW2 := Lib.hid (fun W (hB : Below w.heap.size w W) => HW.out aq nq cq lo W hB (HQ.out.on hB) Hnm.out.1 Hnm.out.2 Hq.out rfl)
        have es : gsN true l2 = l2.sum := rfl
        unfold erB
        rw [es]
        clear es HW HGt
        generalize l2.sum = s at *
        go_wp2_with fail
        refine (HW1.out _ (by (repeat' (first | (with_reducible exact Below.refl _ _) | (with_reducible assumption) | (with_reducible refine Below.alloc ?_ ?_ _) | (with_reducible refine Below.drew ?_) | (with_reducible refine below_drewN ?_ _) | (with_reducible refine Below.setCell ?_ ?_ _) | (with_reducible refine below_after ?_ ?_ _) | (with_reducible refine below_set ?_) | (with_reducible refine After.size_le _ ?_) | (with_reducible refine size_alloc_le ?_) | (with_reducible refine size_set_le ?_) | (with_reducible refine size_drewN_le ?_) | go_size))) (by (repeat' (first | (with_reducible exact Below.refl _ _) | (with_reducible assumption) | (with_reducible refine Below.alloc ?_ ?_ _) | (with_reducible refine Below.drew ?_) | (with_reducible refine below_drewN ?_ _) | (with_reducible refine Below.setCell ?_ ?_ _) | (with_reducible refine below_after ?_ ?_ _) | (with_reducible refine below_set ?_) | (with_reducible refine After.size_le _ ?_) | (with_reducible refine size_alloc_le ?_) | (with_reducible refine size_set_le ?_) | (with_reducible refine size_drewN_le ?_) | go_size)))).mono ?_
        rintro e w6 ⟨hr, hb6⟩
        obtain ⟨x12, rfl⟩ := after_og6 (x11.out.trans (hb6.mono x11.out.size))
        have hr2 : e = .returned (.tuple #[.int .i64 s, .bool true]) := by
          rcases hr with ⟨h, _⟩ | ⟨_, h⟩
          · exact absurd HWf.out.1 h
          · rw [h, HWf.out.2]
        subst hr2
        clear hb6 hr HW1 HWf
        go_wp2_with fail
        refine (HW2.out _ (by (repeat' (first | (with_reducible exact Below.refl _ _) | (with_reducible assumption) | (with_reducible refine Below.alloc ?_ ?_ _) | (with_reducible refine Below.drew ?_) | (with_reducible refine below_drewN ?_ _) | (with_reducible refine Below.setCell ?_ ?_ _) | (with_reducible refine below_after ?_ ?_ _) | (with_reducible refine below_set ?_) | (with_reducible refine After.size_le _ ?_) | (with_reducible refine size_alloc_le ?_) | (with_reducible refine size_set_le ?_) | (with_reducible refine size_drewN_le ?_) | go_size)))).mono ?_
        rintro e w7 ⟨hr, hb7⟩
        obtain ⟨x13, rfl⟩ := after_og6 (x12.out.trans (hb7.mono x12.out.size))
        clear hb7 HW2
        rcases hr with ⟨_, rfl⟩ | ⟨h, rfl⟩
        · clear HO
          go_wp2
          go_ret
          exact ⟨rfl, by (repeat' (first | (with_reducible exact Below.refl _ _) | (with_reducible assumption) | (with_reducible refine Below.alloc ?_ ?_ _) | (with_reducible refine Below.drew ?_) | (with_reducible refine below_drewN ?_ _) | (with_reducible refine Below.setCell ?_ ?_ _) | (with_reducible refine below_after ?_ ?_ _) | (with_reducible refine below_set ?_) | (with_reducible refine After.size_le _ ?_) | (with_reducible refine size_alloc_le ?_) | (with_reducible refine size_set_le ?_) | (with_reducible refine size_drewN_le ?_) | go_size))⟩
        · have hle := HO.out h
          clear HO h
          generalize boN lf m (owN lo (thN (enB m lf) m) nq) 0 = o at *
          go_wp2
          go_ret
          exact ⟨rfl, by (repeat' (first | (with_reducible exact Below.refl _ _) | (with_reducible assumption) | (with_reducible refine Below.alloc ?_ ?_ _) | (with_reducible refine Below.drew ?_) | (with_reducible refine below_drewN ?_ _) | (with_reducible refine Below.setCell ?_ ?_ _) | (with_reducible refine below_after ?_ ?_ _) | (with_reducible refine below_set ?_) | (with_reducible refine After.size_le _ ?_) | (with_reducible refine size_alloc_le ?_) | (with_reducible refine size_set_le ?_) | (with_reducible refine size_drewN_le ?_) | go_size))⟩
  · go_wp2
    go_ret
    exact ⟨rfl, by (repeat' (first | (with_reducible exact Below.refl _ _) | (with_reducible assumption) | (with_reducible refine Below.alloc ?_ ?_ _) | (with_reducible refine Below.drew ?_) | (with_reducible refine below_drewN ?_ _) | (with_reducible refine Below.setCell ?_ ?_ _) | (with_reducible refine below_after ?_ ?_ _) | (with_reducible refine below_set ?_) | (with_reducible refine After.size_le _ ?_) | (with_reducible refine size_alloc_le ?_) | (with_reducible refine size_set_le ?_) | (with_reducible refine size_drewN_le ?_) | go_size))⟩
end Go.Proofs.YtmbjgaeofkikkaaDoor
