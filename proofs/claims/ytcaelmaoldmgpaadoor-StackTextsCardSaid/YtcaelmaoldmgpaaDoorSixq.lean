/- The program's Parse of a stack's text. -/
import Derived.Test.YtcaelmaoldmgpaaDoorSixc
import Derived.Test.YtcaelmaoldmgpaaDoorSplita
import Derived.Deep.DeepCutAuto
namespace Go.Proofs.YtcaelmaoldmgpaaDoor
open Go.RowKit Cr
attribute [local go_sem] After.cell After.frozen After.lt After.le After.ne After.ne' After.set_eq After.size_set After.lt_add tx_size tx_toList

theorem words_nomark (m : UInt8) (s : List UInt8) : ∀ x ∈ wordsL m s, m ∉ x := by
  have key : ∀ s : List UInt8, (∀ x ∈ (cutW m s).1, m ∉ x) ∧ m ∉ (cutW m s).2 := by
    intro s
    induction s with
    | nil => simp [cutW]
    | cons c cs ih =>
      simp only [cutW]
      by_cases h : c = m
      · simp only [h, if_true]
        exact ⟨fun x hx => by
          rcases List.mem_cons.1 hx with rfl | hx
          · simp
          · exact ih.1 x hx, ih.2⟩
      · simp only [h, if_false]
        have hc : m ≠ c := fun e => h e.symm
        cases hv : (cutW m cs).1 with
        | nil => exact ⟨by simp, by simp [hc, ih.2]⟩
        | cons v vs =>
          rw [hv] at ih
          refine ⟨fun x hx => ?_, ih.2⟩
          rcases List.mem_cons.1 hx with rfl | hx
          · have := ih.1 v (by simp)
            simp [hc, this]
          · exact ih.1 x (by simp [hx])
  intro x hx
  unfold wordsL at hx
  rcases List.mem_append.1 hx with hx | hx
  · exact (key s).1 x hx
  · rw [List.mem_singleton.1 hx]; exact (key s).2
theorem cutS_mark (x : List UInt8) (hl : x.length ≤ 65536) (w : World) :
    Calls Tryd.prog 20 #[.string (tx (x ++ [10])), .string (tx [10])] w fun e w' => e = .returned (.tuple #[.string (tx x), .bool true]) ∧ w' = w := by
  have h1 : Lib.hasSuffix (x ++ [10]) [10] = true := by unfold Lib.hasSuffix; exact List.isSuffixOf_iff_suffix.2 ⟨x, rfl⟩
  have h2 : Lib.trimSuffix (x ++ [10]) [10] = x := by unfold Lib.trimSuffix; rw [if_pos h1]; simp
  have := Tryd.strings_CutSuffix (tx (x ++ [10])) (tx [10]) w (by rw [tx_size]; simp; omega)
  rw [show (tx (x ++ [10])).data.toList = x ++ [10] from rfl, show (tx [10]).data.toList = [10] from rfl, h1, h2] at this
  exact this
theorem cutS_no (x : List UInt8) (hl : x.length ≤ 65536) (hx : (10 : UInt8) ∉ x) (w : World) :
    Calls Tryd.prog 20 #[.string (tx x), .string (tx [10])] w fun e w' => e = .returned (.tuple #[.string (tx x), .bool false]) ∧ w' = w := by
  have h1 : Lib.hasSuffix x [10] = false := by
    cases h : Lib.hasSuffix x [10] with
    | false => rfl
    | true =>
      unfold Lib.hasSuffix at h
      obtain ⟨y, hy⟩ := List.isSuffixOf_iff_suffix.1 h
      exact absurd (by rw [← hy]; simp) hx
  have h2 : Lib.trimSuffix x [10] = x := by unfold Lib.trimSuffix; rw [if_neg (by rw [h1]; decide)]
  have := Tryd.strings_CutSuffix (tx x) (tx [10]) w (by rw [tx_size]; omega)
  rw [show (tx x).data.toList = x from rfl, show (tx [10]).data.toList = [10] from rfl, h1, h2] at this
  exact this
theorem noL_rd {ls : List (List UInt8)} {k : Nat} {t : List UInt8} (ht : ls[k]? = some t) (h : ∀ G, OkR G → t ≠ rowL G) : NoL ls k := by
  intro t' ht' G hG _ e
  rw [ht] at ht'
  cases ht'
  exact h G hG e
theorem noL_sixty {ls : List (List UInt8)} {k : Nat} (hk : 60 ≤ k) : NoL ls k := fun _ _ _ _ h => absurd h (by omega)

set_option maxRecDepth 100000 in
set_option maxHeartbeats 2000000 in
theorem parseC_long (s : List UInt8) (w : World) (hs : 65536 < s.length) :
    Calls Tryd.prog 6 #[.string (tx s)] w fun e w' => e = .returned (.tuple #[.slice none 0 0, .int .i64 0, .int .i64 3]) ∧ Below w.heap.size w w' := by
  have hs' : (65536 : Int) < (s.length : Int) := by omega
  go_enter Tryd.func6, Tryd.ntmps6
  go_wp2
  go_returns
  exact ⟨rfl, by (repeat' (first | (with_reducible exact Below.refl _ _) | (with_reducible assumption) | (with_reducible refine Below.alloc ?_ ?_ _) | (with_reducible refine Below.drew ?_) | (with_reducible refine below_drewN ?_ _) | (with_reducible refine Below.setCell ?_ ?_ _) | (with_reducible refine below_after ?_ ?_ _) | (with_reducible refine below_set ?_) | (with_reducible refine After.size_le _ ?_) | (with_reducible refine size_alloc_le ?_) | (with_reducible refine size_set_le ?_) | (with_reducible refine size_drewN_le ?_) | go_size))⟩


set_option maxRecDepth 100000 in
set_option maxHeartbeats 4000000 in
theorem parseC_any (s : List UInt8) (w : World) (hs : s.length ≤ 65536) (hS : Std w)
    (hRd : ∀ (t : List UInt8) (W : World), t.length ≤ 65536 → Std W → Calls Tryd.prog 21 #[.string (tx t)] W fun e w' => RdAns t e ∧ Below W.heap.size W w') :
    Calls Tryd.prog 6 #[.string (tx s)] w fun e w' => (∃ B, PAnsC w' B (wordsL 10 s) e) ∧ Below w.heap.size w w' := by
  obtain ⟨i0, hi, hz0, hz1, hz2⟩ := info_parts crInfo
  have hs' : (s.length : Int) ≤ 65536 := by omega
  have e10 : (⟨#[10]⟩ : ByteArray) = tx [10] := rfl
  have e00 : (⟨#[]⟩ : ByteArray) = tx [] := rfl
  have HSp := Lib.hid (fun W (hW : Below w.heap.size w W) => splitAfter_any hs (hS.on hW))
  have HS := Lib.hid (fun W (hW : Below w.heap.size w W) => hS.on hW)
  have HRd := Lib.hid hRd
  have HLe : Hid (∀ x ∈ wordsL 10 s, x.length ≤ 65536) := Lib.hid fun x hx => by have := words_le 10 s x hx; omega
  have HNm := Lib.hid (words_nomark 10 s)
  have hl1 := wordsL_len 10 s
  have hl0 := words_pos 10 s
  clear hS hRd
  generalize wordsL 10 s = ls at *
  obtain ⟨m, hm⟩ : ∃ m, ls.length = m + 1 := ⟨ls.length - 1, by omega⟩
  have HM := Lib.hid hm
  rw [hm] at HSp hl1
  clear hl0 hm
  go_enter Tryd.func6, Tryd.ntmps6
  go_wp2_with fail
  refine (HSp.out _ (by (repeat' (first | (with_reducible exact Below.refl _ _) | (with_reducible assumption) | (with_reducible refine Below.alloc ?_ ?_ _) | (with_reducible refine Below.drew ?_) | (with_reducible refine below_drewN ?_ _) | (with_reducible refine Below.setCell ?_ ?_ _) | (with_reducible refine below_after ?_ ?_ _) | (with_reducible refine below_set ?_) | (with_reducible refine After.size_le _ ?_) | (with_reducible refine size_alloc_le ?_) | (with_reducible refine size_set_le ?_) | (with_reducible refine size_drewN_le ?_) | go_size)))).mono ?_
  rintro e1 w1 ⟨⟨g, rfl, hg, hcell⟩, hb1⟩
  have HC := Lib.hid hcell
  obtain ⟨x1, rfl⟩ := after_of' hb1
  clear hb1 hcell HSp
  obtain ⟨tl, htl0⟩ : ∃ t, ls[m]? = some t := ⟨_, List.getElem?_eq_getElem (by have := HM.out; omega)⟩
  have hpl := aftL_get 10 ls m tl htl0
  rw [if_neg (by have := HM.out; omega)] at hpl
  have hcl := HC.out m tl hpl
  clear hpl
  by_cases hm0 : m = 0
  · subst hm0
    have HB := Lib.hid (show StopsC ls 0 from ⟨⟨fun _ _ => 0, by omega, fun i hi => absurd hi (by omega)⟩, .inr ⟨HM.out, .inl rfl⟩⟩)
    have htl := HLe.out tl (List.mem_of_getElem? htl0)
    have HCu := Lib.hid (cutS_no tl htl (HNm.out tl (List.mem_of_getElem? htl0)))
    have HRd1 := Lib.hid (fun W (hW : Below w.heap.size w W) => HRd.out tl W htl (HS.out W hW))
    clear htl0 HC HM HLe HNm HRd HS
    go_upto_region 8 with (fail)
    go_loopw [36] (fun i wr => i = .int .i64 0 ∧ wr = x1.w) (fun _ _ => 0)
    case atStart => exact ⟨rfl, rfl⟩
    case round =>
      obtain ⟨rfl, rfl⟩ := hrel
      go_wp2_with fail
      refine (HCu.out _).mono ?_
      rintro e2 w2 ⟨rfl, rfl⟩
      go_wp2_with fail
      refine (HRd1.out _ x1.out).mono ?_
      rintro e3 w3 ⟨⟨F, ok, rfl, -, -⟩, hb3⟩
      obtain ⟨y3, rfl⟩ := after_of' hb3
      have hsy3 := y3.out.size
      clear hb3
      go_wp2
      go_returns
      exact ⟨⟨0, .inr ⟨0, HB.out, rfl⟩⟩, x1.out.trans (Below.trans (b := y3.w) (y3.out.mono x1.out.size) (by (repeat' (first | (with_reducible exact Nat.le_refl _) | (with_reducible exact Below.refl _ _) | (with_reducible assumption) | (with_reducible refine Below.alloc ?_ ?_ _) | (with_reducible refine Below.drew ?_) | (with_reducible refine below_drewN ?_ _) | (with_reducible refine Below.setCell ?_ ?_ _) | (with_reducible refine below_after ?_ ?_ _) | (with_reducible refine below_set ?_) | (with_reducible refine After.size_le _ ?_) | (with_reducible refine size_alloc_le ?_) | (with_reducible refine size_set_le ?_) | (with_reducible refine size_drewN_le ?_) | go_size))))⟩
  · have hm1 : decide ((1 : Int) < (m : Int) + 1) = true := decide_eq_true (by omega)
    have hml : (m : Int) ≤ 65536 := by omega
    by_cases ht0 : tl = []
    · subst ht0
      obtain ⟨M, hMe⟩ : ∃ M : Nat, M = m := ⟨m, rfl⟩
      have HLast : Hid (M = m + 1 → m = 0 ∨ ls[m]? ≠ some []) := Lib.hid fun h => absurd h (by omega)
      have HDone : Hid (M ≤ m → m = M ∧ 1 ≤ M ∧ ls[M]? = some []) := Lib.hid fun _ => ⟨hMe.symm, by omega, by rw [hMe]; exact htl0⟩
      have hMI : ∀ k : Nat, k < M → (k : Int) < (m : Int) := fun k h => by omega
      have hMx : decide ((M : Int) < (m : Int)) = false := decide_eq_false (by omega)
      have HMe := Lib.hid hMe
      clear htl0 hMe
      go_upto_region 8 with (fail)
      go_loopw [2, 36] (fun v i wr => ∃ (k : Nat) (f : Nat → Nat → Int), k ≤ m ∧ k ≤ M ∧ i = .int .i64 k ∧ PG ls k f ∧ ∃ y : After x1.w, wr = y.w ∧ y.w.ownsRow x1.w.heap.size 38 6 v k (crc k f)) (fun _ i _ => M - (intOf i).toNat)
      case atStart => exact ⟨0, fun _ _ => 0, by omega, by omega, rfl, ⟨by omega, fun i hi => absurd hi (by omega)⟩, ⟨x1.w, Below.refl _ _⟩, rfl, World.ownsRow_nil _ _ _ _⟩
      case round =>
        obtain ⟨k, f, hkm, hk, rfl, hp, y, rfl, hown⟩ := hrel
        have hsy := y.out.size
        have hk60 := hp.1
        have HP := Lib.hid hp
        have hgy := y.size_lt hg
        clear hp
        by_cases hlt : k < M
        · obtain ⟨t, ht⟩ : ∃ t, ls[k]? = some t := ⟨_, List.getElem?_eq_getElem (by have := HM.out; omega)⟩
          have htl := HLe.out t (List.mem_of_getElem? ht)
          have hno := HNm.out t (List.mem_of_getElem? ht)
          have hpc := aftL_get 10 ls k t ht
          have HT := Lib.hid ht
          have hkM := hMI k hlt
          have HRd1 := Lib.hid (fun W (hW : Below w.heap.size w W) => HRd.out t W htl (HS.out W hW))
          clear ht
          by_cases hend : k < m
          · rw [if_pos (by have := HM.out; omega)] at hpc
            have hc := (y.out.cell (p := ⟨g, k, none⟩) hg).trans (HC.out k _ hpc)
            have HCu := Lib.hid (cutS_mark t htl)
            clear hpc
            generalize t ++ [10] = tn at *
            go_wp2_with fail
            refine (HCu.out _).mono ?_
            rintro e2 w2 ⟨rfl, rfl⟩
            go_wp2_with fail
            refine (HRd1.out _ (x1.out.trans (y.out.mono x1.out.size))).mono ?_
            rintro e3 w3 ⟨⟨F, ok, rfl, hyes, hnot⟩, hb3⟩
            have hown3 := owns_stay hown hb3
            obtain ⟨y3, rfl⟩ := after_of' (y.out.trans (hb3.mono y.out.size))
            have hsy3 := y3.out.size
            have HYes := Lib.hid hyes
            have HNot := Lib.hid hnot
            clear hb3 hown hyes hnot
            cases ok
            · have HB := Lib.hid (show StopsC ls k from ⟨⟨f, HP.out⟩, .inl ⟨by have := HM.out; omega, noL_rd HT.out (HNot.out rfl)⟩⟩)
              go_wp2
              go_returns
              exact ⟨⟨0, .inr ⟨k, HB.out, rfl⟩⟩, x1.out.trans (Below.trans (b := y3.w) (y3.out.mono x1.out.size) (by (repeat' (first | (with_reducible exact Nat.le_refl _) | (with_reducible exact Below.refl _ _) | (with_reducible assumption) | (with_reducible refine Below.alloc ?_ ?_ _) | (with_reducible refine Below.drew ?_) | (with_reducible refine below_drewN ?_ _) | (with_reducible refine Below.setCell ?_ ?_ _) | (with_reducible refine below_after ?_ ?_ _) | (with_reducible refine below_set ?_) | (with_reducible refine After.size_le _ ?_) | (with_reducible refine size_alloc_le ?_) | (with_reducible refine size_set_le ?_) | (with_reducible refine size_drewN_le ?_) | go_size))))⟩
            · by_cases h60 : k = 60
              · have HB := Lib.hid (show StopsC ls k from ⟨⟨f, HP.out⟩, .inl ⟨by have := HM.out; omega, noL_sixty (by omega)⟩⟩)
                have h60' : ((k : Int) == 60) = true := beq_iff_eq.2 (by omega)
                go_wp2
                go_returns
                exact ⟨⟨0, .inr ⟨k, HB.out, by rw [h60]; rfl⟩⟩, x1.out.trans (Below.trans (b := y3.w) (y3.out.mono x1.out.size) (by (repeat' (first | (with_reducible exact Nat.le_refl _) | (with_reducible exact Below.refl _ _) | (with_reducible assumption) | (with_reducible refine Below.alloc ?_ ?_ _) | (with_reducible refine Below.drew ?_) | (with_reducible refine below_drewN ?_ _) | (with_reducible refine Below.setCell ?_ ?_ _) | (with_reducible refine below_after ?_ ?_ _) | (with_reducible refine below_set ?_) | (with_reducible refine After.size_le _ ?_) | (with_reducible refine size_alloc_le ?_) | (with_reducible refine size_set_le ?_) | (with_reducible refine size_drewN_le ?_) | go_size))))⟩
              · have h60' : ((k : Int) == 60) = false := beq_eq_false_iff_ne.2 (by omega)
                have HF6 : Hid (c6 F = [.int .i64 (F 0), .int .i64 (F 1), .int .i64 (F 2), .int .i64 (F 3), .int .i64 (F 4), .int .i64 (F 5)]) := Lib.hid rfl
                go_wp2_with (at_builtin; refine wpList_append_own _ rfl _ _ 22 rfl x1.w.heap.size 38 i0 (.agg #[.int .i64 0, .int .i64 0, .int .i64 0, .int .i64 0, .int .i64 0, .int .i64 0]) 6 48 Tryd.underlying22 hi hz0 hz1 hz2 rfl (by decide) _ _ _ rfl ((hown3.alloc _).alloc _) ⟨y3.w.heap.size + 1, 0, none⟩ 1 1 [.int .i64 (F 0), .int .i64 (F 1), .int .i64 (F 2), .int .i64 (F 3), .int .i64 (F 4), .int .i64 (F 5)] rfl rfl (World.news_of_block (cs := #[.int .i64 (F 0), .int .i64 (F 1), .int .i64 (F 2), .int .i64 (F 3), .int .i64 (F 4), .int .i64 (F 5)]) (t := 38) (fr := (0, 0)) (by have := heap_alloc_new (y3.w.alloc (.cells #[.int .i64 (F 0), .int .i64 (F 1), .int .i64 (F 2), .int .i64 (F 3), .int .i64 (F 4), .int .i64 (F 5)] 38)) (.cells #[.int .i64 (F 0), .int .i64 (F 1), .int .i64 (F 2), .int .i64 (F 3), .int .i64 (F 4), .int .i64 (F 5)] 38); simpa using this)) (by simp [Value.oneCell']) (by unfold maxLen; omega) (by omega) (by simp; omega) ?_; intro v' w6 hown' hgrow _)
                rw [← HF6.out, ← crc_put] at hown'
                go_roundw
                case rel => exact ⟨k + 1, putR f k F, by omega, by omega, by go_num, HP.out.put (by rw [HT.out, (HYes.out (by first | trivial | rfl)).2]) (HYes.out (by first | trivial | rfl)).1 (by omega), ⟨w6, ((y3.out.alloc hsy3 _).alloc (by simp; omega) _).grown hgrow (by simp; omega) (fun j e => (hown3.lt j e).1)⟩, rfl, hown'⟩
                case measure => simp [intOf]; omega
          · obtain rfl : k = m := by omega
            exfalso
            have := HMe.out
            omega
        · obtain rfl : M = k := by omega
          obtain rfl : M = m := HMe.out
          have HW := Lib.hid (HDone.out hkm)
          obtain ⟨av, capv, rfl⟩ : ∃ av capv, u2 = .slice av M capv := owns_shape hown
          have HO := Lib.hid hown
          clear hown
          go_wp2
          go_returns
          exact ⟨⟨_, .inl ⟨M, f, _, ⟨HP.out, HM.out, HW.out.2.1, HW.out.2.2⟩, rfl, HO.out⟩⟩, x1.out.trans (y.out.mono x1.out.size)⟩
    · have ht0' : (tl == []) = false := beq_eq_false_iff_ne.2 ht0
      obtain ⟨M, hMe⟩ : ∃ M : Nat, M = m + 1 := ⟨m + 1, rfl⟩
      have HLast : Hid (M = m + 1 → m = 0 ∨ ls[m]? ≠ some []) := Lib.hid fun _ => .inr (by rw [htl0]; intro e; exact ht0 (Option.some.inj e))
      have HDone : Hid (M ≤ m → m = M ∧ 1 ≤ M ∧ ls[M]? = some []) := Lib.hid fun h => absurd h (by omega)
      have hMI : ∀ k : Nat, k < M → (k : Int) < (m : Int) + 1 := fun k h => by omega
      have hMx : decide ((M : Int) < (m : Int) + 1) = false := decide_eq_false (by omega)
      have HMe := Lib.hid hMe
      clear htl0 hMe
      go_upto_region 8 with (fail)
      go_loopw [2, 36] (fun v i wr => ∃ (k : Nat) (f : Nat → Nat → Int), k ≤ m ∧ k ≤ M ∧ i = .int .i64 k ∧ PG ls k f ∧ ∃ y : After x1.w, wr = y.w ∧ y.w.ownsRow x1.w.heap.size 38 6 v k (crc k f)) (fun _ i _ => M - (intOf i).toNat)
      case atStart => exact ⟨0, fun _ _ => 0, by omega, by omega, rfl, ⟨by omega, fun i hi => absurd hi (by omega)⟩, ⟨x1.w, Below.refl _ _⟩, rfl, World.ownsRow_nil _ _ _ _⟩
      case round =>
        obtain ⟨k, f, hkm, hk, rfl, hp, y, rfl, hown⟩ := hrel
        have hsy := y.out.size
        have hk60 := hp.1
        have HP := Lib.hid hp
        have hgy := y.size_lt hg
        clear hp
        by_cases hlt : k < M
        · obtain ⟨t, ht⟩ : ∃ t, ls[k]? = some t := ⟨_, List.getElem?_eq_getElem (by have := HM.out; omega)⟩
          have htl := HLe.out t (List.mem_of_getElem? ht)
          have hno := HNm.out t (List.mem_of_getElem? ht)
          have hpc := aftL_get 10 ls k t ht
          have HT := Lib.hid ht
          have hkM := hMI k hlt
          have HRd1 := Lib.hid (fun W (hW : Below w.heap.size w W) => HRd.out t W htl (HS.out W hW))
          clear ht
          by_cases hend : k < m
          · rw [if_pos (by have := HM.out; omega)] at hpc
            have hc := (y.out.cell (p := ⟨g, k, none⟩) hg).trans (HC.out k _ hpc)
            have HCu := Lib.hid (cutS_mark t htl)
            clear hpc
            generalize t ++ [10] = tn at *
            go_wp2_with fail
            refine (HCu.out _).mono ?_
            rintro e2 w2 ⟨rfl, rfl⟩
            go_wp2_with fail
            refine (HRd1.out _ (x1.out.trans (y.out.mono x1.out.size))).mono ?_
            rintro e3 w3 ⟨⟨F, ok, rfl, hyes, hnot⟩, hb3⟩
            have hown3 := owns_stay hown hb3
            obtain ⟨y3, rfl⟩ := after_of' (y.out.trans (hb3.mono y.out.size))
            have hsy3 := y3.out.size
            have HYes := Lib.hid hyes
            have HNot := Lib.hid hnot
            clear hb3 hown hyes hnot
            cases ok
            · have HB := Lib.hid (show StopsC ls k from ⟨⟨f, HP.out⟩, .inl ⟨by have := HM.out; omega, noL_rd HT.out (HNot.out rfl)⟩⟩)
              go_wp2
              go_returns
              exact ⟨⟨0, .inr ⟨k, HB.out, rfl⟩⟩, x1.out.trans (Below.trans (b := y3.w) (y3.out.mono x1.out.size) (by (repeat' (first | (with_reducible exact Nat.le_refl _) | (with_reducible exact Below.refl _ _) | (with_reducible assumption) | (with_reducible refine Below.alloc ?_ ?_ _) | (with_reducible refine Below.drew ?_) | (with_reducible refine below_drewN ?_ _) | (with_reducible refine Below.setCell ?_ ?_ _) | (with_reducible refine below_after ?_ ?_ _) | (with_reducible refine below_set ?_) | (with_reducible refine After.size_le _ ?_) | (with_reducible refine size_alloc_le ?_) | (with_reducible refine size_set_le ?_) | (with_reducible refine size_drewN_le ?_) | go_size))))⟩
            · by_cases h60 : k = 60
              · have HB := Lib.hid (show StopsC ls k from ⟨⟨f, HP.out⟩, .inl ⟨by have := HM.out; omega, noL_sixty (by omega)⟩⟩)
                have h60' : ((k : Int) == 60) = true := beq_iff_eq.2 (by omega)
                go_wp2
                go_returns
                exact ⟨⟨0, .inr ⟨k, HB.out, by rw [h60]; rfl⟩⟩, x1.out.trans (Below.trans (b := y3.w) (y3.out.mono x1.out.size) (by (repeat' (first | (with_reducible exact Nat.le_refl _) | (with_reducible exact Below.refl _ _) | (with_reducible assumption) | (with_reducible refine Below.alloc ?_ ?_ _) | (with_reducible refine Below.drew ?_) | (with_reducible refine below_drewN ?_ _) | (with_reducible refine Below.setCell ?_ ?_ _) | (with_reducible refine below_after ?_ ?_ _) | (with_reducible refine below_set ?_) | (with_reducible refine After.size_le _ ?_) | (with_reducible refine size_alloc_le ?_) | (with_reducible refine size_set_le ?_) | (with_reducible refine size_drewN_le ?_) | go_size))))⟩
              · have h60' : ((k : Int) == 60) = false := beq_eq_false_iff_ne.2 (by omega)
                have HF6 : Hid (c6 F = [.int .i64 (F 0), .int .i64 (F 1), .int .i64 (F 2), .int .i64 (F 3), .int .i64 (F 4), .int .i64 (F 5)]) := Lib.hid rfl
                go_wp2_with (at_builtin; refine wpList_append_own _ rfl _ _ 22 rfl x1.w.heap.size 38 i0 (.agg #[.int .i64 0, .int .i64 0, .int .i64 0, .int .i64 0, .int .i64 0, .int .i64 0]) 6 48 Tryd.underlying22 hi hz0 hz1 hz2 rfl (by decide) _ _ _ rfl ((hown3.alloc _).alloc _) ⟨y3.w.heap.size + 1, 0, none⟩ 1 1 [.int .i64 (F 0), .int .i64 (F 1), .int .i64 (F 2), .int .i64 (F 3), .int .i64 (F 4), .int .i64 (F 5)] rfl rfl (World.news_of_block (cs := #[.int .i64 (F 0), .int .i64 (F 1), .int .i64 (F 2), .int .i64 (F 3), .int .i64 (F 4), .int .i64 (F 5)]) (t := 38) (fr := (0, 0)) (by have := heap_alloc_new (y3.w.alloc (.cells #[.int .i64 (F 0), .int .i64 (F 1), .int .i64 (F 2), .int .i64 (F 3), .int .i64 (F 4), .int .i64 (F 5)] 38)) (.cells #[.int .i64 (F 0), .int .i64 (F 1), .int .i64 (F 2), .int .i64 (F 3), .int .i64 (F 4), .int .i64 (F 5)] 38); simpa using this)) (by simp [Value.oneCell']) (by unfold maxLen; omega) (by omega) (by simp; omega) ?_; intro v' w6 hown' hgrow _)
                rw [← HF6.out, ← crc_put] at hown'
                go_roundw
                case rel => exact ⟨k + 1, putR f k F, by omega, by omega, by go_num, HP.out.put (by rw [HT.out, (HYes.out (by first | trivial | rfl)).2]) (HYes.out (by first | trivial | rfl)).1 (by omega), ⟨w6, ((y3.out.alloc hsy3 _).alloc (by simp; omega) _).grown hgrow (by simp; omega) (fun j e => (hown3.lt j e).1)⟩, rfl, hown'⟩
                case measure => simp [intOf]; omega
          · obtain rfl : k = m := by omega
            rw [if_neg (by have := HM.out; omega)] at hpc
            have hc := (y.out.cell (p := ⟨g, k, none⟩) hg).trans (HC.out k _ hpc)
            have HCu := Lib.hid (cutS_no t htl hno)
            have HB := Lib.hid (show StopsC ls k from ⟨⟨f, HP.out⟩, .inr ⟨HM.out, HLast.out (by have := HMe.out; omega)⟩⟩)
            clear hpc
            go_wp2_with fail
            refine (HCu.out _).mono ?_
            rintro e2 w2 ⟨rfl, rfl⟩
            go_wp2_with fail
            refine (HRd1.out _ (x1.out.trans (y.out.mono x1.out.size))).mono ?_
            rintro e3 w3 ⟨⟨F, ok, rfl, -, -⟩, hb3⟩
            obtain ⟨y3, rfl⟩ := after_of' (y.out.trans (hb3.mono y.out.size))
            have hsy3 := y3.out.size
            clear hb3 hown
            go_wp2
            go_returns
            exact ⟨⟨0, .inr ⟨k, HB.out, rfl⟩⟩, x1.out.trans (Below.trans (b := y3.w) (y3.out.mono x1.out.size) (by (repeat' (first | (with_reducible exact Nat.le_refl _) | (with_reducible exact Below.refl _ _) | (with_reducible assumption) | (with_reducible refine Below.alloc ?_ ?_ _) | (with_reducible refine Below.drew ?_) | (with_reducible refine below_drewN ?_ _) | (with_reducible refine Below.setCell ?_ ?_ _) | (with_reducible refine below_after ?_ ?_ _) | (with_reducible refine below_set ?_) | (with_reducible refine After.size_le _ ?_) | (with_reducible refine size_alloc_le ?_) | (with_reducible refine size_set_le ?_) | (with_reducible refine size_drewN_le ?_) | go_size))))⟩
        · obtain rfl : M = k := by omega
          have HW := Lib.hid (HDone.out hkm)
          obtain ⟨av, capv, rfl⟩ : ∃ av capv, u2 = .slice av M capv := owns_shape hown
          have HO := Lib.hid hown
          clear hown
          go_wp2
          go_returns
          exact ⟨⟨_, .inl ⟨M, f, _, ⟨HP.out, by rw [HM.out, HW.out.1], HW.out.2.1, HW.out.2.2⟩, rfl, HO.out⟩⟩, x1.out.trans (y.out.mono x1.out.size)⟩
end Go.Proofs.YtcaelmaoldmgpaaDoor
