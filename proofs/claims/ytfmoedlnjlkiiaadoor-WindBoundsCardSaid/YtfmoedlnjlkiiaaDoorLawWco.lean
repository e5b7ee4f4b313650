/- WindCovers: the law's walk. -/
import Derived.Test.YtfmoedlnjlkiiaaDoorLawWst
import Derived.Test.YtfmoedlnjlkiiaaDoorLawWsr
import Derived.Test.YtfmoedlnjlkiiaaDoorWdt
import Derived.Test.YtfmoedlnjlkiiaaDoorWdy
import Derived.Deep.AppendLies
import Derived.OwnWalk
namespace Go.Proofs.YtfmoedlnjlkiiaaDoor
open Go.RowKit
attribute [local go_sem] After.cell After.frozen After.lt After.le After.ne After.ne' After.set_eq After.size_set After.lt_add

theorem rxs_cells {W : World} {b off n : Nat} {h : Nat → Int} (hc : ∀ k, k < n → W.cell? ⟨b, off + k, none⟩ = some (.int .i64 (h k))) : ∀ j u, (rxs h n)[j]? = some u → W.cell? ((⟨b, off, none⟩ : Addr).add j) = some u := by
  intro j u hu
  have hj : j < n := by
    have := (List.getElem?_eq_some_iff.1 hu).1
    rwa [rxs_len] at this
  have ha : (⟨b, off, none⟩ : Addr).add j = ⟨b, off + j, none⟩ := by simp [Addr.add]
  rw [rxs_get hj] at hu
  rw [ha, hc j hj, hu]
theorem rxs_one (h : Nat → Int) (n : Nat) : ∀ u ∈ rxs h n, u.oneCell' = true := by
  intro u hu
  unfold rxs at hu
  rw [List.mem_map] at hu
  obtain ⟨i, _, rfl⟩ := hu
  rfl
theorem rxs_exF (f : Nat → Int) (n : Nat) : rxs (exF f n) n = rxs f n := by
  unfold rxs
  refine List.map_congr_left fun i hi => ?_
  rw [exF_lt (List.mem_range.1 hi)]
theorem row_iat {W : World} {B G cap n : Nat} {h : Nat → Int} (hr : W.ownsRow B 3 1 (.slice (some ⟨G, 0, none⟩) n cap) n (rxs h n)) {m : Nat} (hm : m ≤ n) : IAt W (some ⟨G, 0, none⟩) m h := fun i hi => by
  refine ⟨G, 0, rfl, (hr.lt G rfl).2, ?_⟩
  rw [Nat.zero_add, hr.cellAt _ (by omega)]
  exact rxs_get (by omega)
theorem row_cap {W : World} {B G cap n : Nat} {xs : List Value} (hr : W.ownsRow B 3 1 (.slice (some ⟨G, 0, none⟩) n cap) n xs) : n ≤ cap := by
  rcases hr.2 with ⟨h', _⟩ | ⟨g', cap', cur, h', _, _, hnc, _⟩
  · simp at h'
  · simp only [Value.slice.injEq, Option.some.injEq, Addr.mk.injEq, and_true, true_and] at h'
    omega
set_option maxRecDepth 100000 in
set_option maxHeartbeats 16000000 in
theorem windCovers_any (s g c : Int) (a : Option Addr) (n cap : Nat) (f : Nat → Int) (w : World) (hA : IAt w a n f) (hS : Stw w) :
    Calls Tryd.prog 4 #[.agg #[.int .i64 s, .int .i64 g, .int .i64 c], .slice a n cap] w fun e w' => e = .returned (.bool true) ∧ Below w.heap.size w w' := by
  have HAw := Lib.hid (fun W (hW : Below w.heap.size w W) => awake_any W (hS.on hW))
  by_cases hn : (300 : Int) < n
  · go_enter Tryd.func4, Tryd.ntmps4
    go_wp2_with fail
    refine calls_after (HAw.out _ (by (repeat' (first | (with_reducible exact Below.refl _ _) | (with_reducible assumption) | (with_reducible refine Below.alloc ?_ ?_ _) | (with_reducible refine Below.drew ?_) | (with_reducible refine below_drewN ?_ _) | (with_reducible refine Below.setCell ?_ ?_ _) | (with_reducible refine below_after ?_ ?_ _) | (with_reducible refine below_set ?_) | (with_reducible refine After.size_le _ ?_) | (with_reducible refine size_alloc_le ?_) | (with_reducible refine size_set_le ?_) | (with_reducible refine size_drewN_le ?_) | go_size)))) ?_
    intro x1
    go_wp2
    go_ret
    exact ⟨rfl, by (repeat' (first | (with_reducible exact Below.refl _ _) | (with_reducible assumption) | (with_reducible refine Below.alloc ?_ ?_ _) | (with_reducible refine Below.drew ?_) | (with_reducible refine below_drewN ?_ _) | (with_reducible refine Below.setCell ?_ ?_ _) | (with_reducible refine below_after ?_ ?_ _) | (with_reducible refine below_set ?_) | (with_reducible refine After.size_le _ ?_) | (with_reducible refine size_alloc_le ?_) | (with_reducible refine size_set_le ?_) | (with_reducible refine size_drewN_le ?_) | go_size))⟩
  have hn300 : n ≤ 300 := by omega
  have hnd : decide ((300 : Int) < n) = false := decide_eq_false hn
  have P1 := Lib.hid (fun W (hW : Below w.heap.size w W) => stops_any s g c a n cap f W (hA.on hW))
  cases hk : AskB s g c n f
  · have e1 : asE s g c n f = 1 := by unfold asE; rw [hk]; rfl
    rw [e1] at P1
    go_enter Tryd.func4, Tryd.ntmps4
    go_wp2_with fail
    refine calls_after (HAw.out _ (by (repeat' (first | (with_reducible exact Below.refl _ _) | (with_reducible assumption) | (with_reducible refine Below.alloc ?_ ?_ _) | (with_reducible refine Below.drew ?_) | (with_reducible refine below_drewN ?_ _) | (with_reducible refine Below.setCell ?_ ?_ _) | (with_reducible refine below_after ?_ ?_ _) | (with_reducible refine below_set ?_) | (with_reducible refine After.size_le _ ?_) | (with_reducible refine size_alloc_le ?_) | (with_reducible refine size_set_le ?_) | (with_reducible refine size_drewN_le ?_) | go_size)))) ?_
    intro x1
    have hB1 := Lib.hid (show Below w.heap.size w x1.w by (repeat' (first | (with_reducible exact Below.refl _ _) | (with_reducible assumption) | (with_reducible refine Below.alloc ?_ ?_ _) | (with_reducible refine Below.drew ?_) | (with_reducible refine below_drewN ?_ _) | (with_reducible refine Below.setCell ?_ ?_ _) | (with_reducible refine below_after ?_ ?_ _) | (with_reducible refine below_set ?_) | (with_reducible refine After.size_le _ ?_) | (with_reducible refine size_alloc_le ?_) | (with_reducible refine size_set_le ?_) | (with_reducible refine size_drewN_le ?_) | go_size)))
    have r1 : Hid (RuAt x1.w w.heap.size s g c) := Lib.hid (RuAt.on (W := w.alloc (.cells #[.int .i64 s, .int .i64 g, .int .i64 c] 23)) ⟨by simp [go_sem], by simp [go_sem], by simp [go_sem], fun o => by simp [go_sem]⟩ x1.out)
    obtain ⟨q0, q1, q2, qf⟩ := r1.out
    go_wp2_with fail
    refine (P1.out _ hB1.out).mono ?_
    rintro e w2 ⟨⟨v, rfl, _⟩, hb2⟩
    have hB2 := Lib.hid (hB1.out.trans (hb2.mono hB1.out.size))
    go_wp2
    go_ret
    exact ⟨rfl, hB2.out⟩
  obtain ⟨hGG, hRu⟩ := ask_of hk
  obtain ⟨hc, _, hf⟩ := ask_c hk
  have e1 : asE s g c n f = 0 := by unfold asE; rw [hk]; rfl
  rw [e1] at P1
  have hnI : (n : Int) ≤ 300 := by omega
  have HG : Hid (∀ (k : Nat) W, k < n → Below w.heap.size w W → Calls Tryd.prog 19 #[.agg #[.int .i64 s, .int .i64 g, .int .i64 c], .slice a n cap, .int .i64 k] W fun e w' => e = .returned (.tuple #[.bool (gW s g c f k), .int .i64 0]) ∧ Below W.heap.size W w') := Lib.hid fun k W hkn hW => by
    have h := goes_say s g c a n cap f k W (hA.on hW)
    unfold goB goE at h
    have hb : Btw (k : Int) 0 ((n : Int) - 1) := by unfold Btw; omega
    rw [hk, decide_eq_true hb, if_pos hb] at h
    simpa using h
  have HBl : Hid (∀ k, k < n → gW s g c f k = true → 0 ≤ f k ∧ f k < s) := Lib.hid fun k hkn h => gW_below hc.1 (hf k hkn) h
  have HSp : Hid (SpInv (pW s g c f false) n (stL s g c n f)) := Lib.hid (by unfold stL; rw [if_pos hk]; exact spInv _ n)
  have hsl : (stL s g c n f).length ≤ 300 := by
    unfold stL
    rw [if_pos hk]
    exact Nat.le_trans (spS_len _) (Nat.le_trans (fl_len _ _) (by omega))
  have hslI : ((stL s g c n f).length : Int) ≤ 300 := by omega
  have HA := Lib.hid hA
  have HRe := Lib.hid (fun W (hW : Below w.heap.size w W) => resumes_say s g c a n cap f W (hA.on hW))
  have eN : reN s g c n f = wt s g c f n := by unfold reN; rw [if_pos hk]
  have eE : reE s g c n f = if wt s g c f n = 0 then 10 else 0 := by unfold reE; rw [if_pos hk]
  rw [eN, eE] at HRe
  have hwb := wt_bd (s := s) (g := g) hc.1 f n
  have hw0 : n = 0 → wt s g c f n = 0 := fun h => by subst h; rfl
  have HCalm : Hid (∀ N : Nat, wt s g c f n = N → N ≠ 0 → reE s g c (n + N) (exF f n) = 10 ∧ reE s g c (n + N - 1) (exF f n) = 0) := Lib.hid fun N hN h0 => re_calm hk hn300 hN h0
  have hcc : c ≤ 240 := by unfold GoodRu Btw at hRu; omega
  clear hA hS eN eE
  generalize stL s g c n f = L at *
  generalize wt s g c f n = wn at *
  go_enter Tryd.func4, Tryd.ntmps4
  go_wp2_with fail
  refine calls_after (HAw.out _ (by (repeat' (first | (with_reducible exact Below.refl _ _) | (with_reducible assumption) | (with_reducible refine Below.alloc ?_ ?_ _) | (with_reducible refine Below.drew ?_) | (with_reducible refine below_drewN ?_ _) | (with_reducible refine Below.setCell ?_ ?_ _) | (with_reducible refine below_after ?_ ?_ _) | (with_reducible refine below_set ?_) | (with_reducible refine After.size_le _ ?_) | (with_reducible refine size_alloc_le ?_) | (with_reducible refine size_set_le ?_) | (with_reducible refine size_drewN_le ?_) | go_size)))) ?_
  intro x1
  have hB1 := Lib.hid (show Below w.heap.size w x1.w by (repeat' (first | (with_reducible exact Below.refl _ _) | (with_reducible assumption) | (with_reducible refine Below.alloc ?_ ?_ _) | (with_reducible refine Below.drew ?_) | (with_reducible refine below_drewN ?_ _) | (with_reducible refine Below.setCell ?_ ?_ _) | (with_reducible refine below_after ?_ ?_ _) | (with_reducible refine below_set ?_) | (with_reducible refine After.size_le _ ?_) | (with_reducible refine size_alloc_le ?_) | (with_reducible refine size_set_le ?_) | (with_reducible refine size_drewN_le ?_) | go_size)))
  have r1 : Hid (RuAt x1.w w.heap.size s g c) := Lib.hid (RuAt.on (W := w.alloc (.cells #[.int .i64 s, .int .i64 g, .int .i64 c] 23)) ⟨by simp [go_sem], by simp [go_sem], by simp [go_sem], fun o => by simp [go_sem]⟩ x1.out)
  obtain ⟨q0, q1, q2, qf⟩ := r1.out
  go_wp2_with fail
  refine (P1.out _ hB1.out).mono ?_
  rintro e w2 ⟨⟨v, rfl, hv⟩, hb2⟩
  obtain ⟨av, cv, rfl, hvc⟩ := hv.in
  have hB2 := Lib.hid (hB1.out.trans (hb2.mono hB1.out.size))
  have r2 := Lib.hid (r1.out.on hb2)
  have HV := Lib.hid hvc
  have HA2 := Lib.hid (HA.out.on hB2.out)
  clear q0 q1 q2 qf hv hb2 r1 hB1 HAw P1 hvc
  obtain ⟨q0, q1, q2, qf⟩ := r2.out
  have hlt2 : w.heap.size < w2.heap.size := World.block_lt_of_cell? w2 _ q0
  have HB2 : Hid (∀ x : After w2, Below w.heap.size w x.w) := Lib.hid fun x => hB2.out.trans (x.out.mono hB2.out.size)
  go_wp2
  go_loopw [7, 8, 9, 10, 11] (fun kv i _ _ _ wr => ∃ k m : Nat, k ≤ L.length ∧ m ≤ n ∧ i = .int .i64 m ∧ kv = .int .i64 k ∧ (∀ j, j < k → (L.getD j (0, 0)).2 ≤ (m : Int)) ∧ ∃ x : After w2, wr = x.w) (fun _ i _ _ _ _ => n - (intOf i).toNat)
  case atStart => exact ⟨0, 0, by omega, by omega, rfl, rfl, fun j hj => (by omega), ⟨w2, Below.refl _ _⟩, rfl⟩
  case round =>
    obtain ⟨k0, m, hk0, hm, rfl, rfl, hbef, x, rfl⟩ := hrel
    by_cases hlt : m < n
    · have hlti : (m : Int) < (n : Int) := by omega
      go_wp2
      go_loopw [7] (fun kv wr => ∃ k : Nat, k ≤ L.length ∧ kv = .int .i64 k ∧ (∀ j, j < k → (L.getD j (0, 0)).2 ≤ (m : Int)) ∧ wr = x.w) (fun kv _ => L.length - (intOf kv).toNat)
      case atStart => exact ⟨k0, hk0, rfl, hbef, rfl⟩
      case round =>
        obtain ⟨k, hk', rfl, hbe, rfl⟩ := hrel
        by_cases hkl : k < L.length
        · have hkli : (k : Int) < (L.length : Int) := by omega
          obtain ⟨sb, soff, rfl, hsb, c1, c2⟩ := HV.out k hkl
          by_cases hle : (L.getD k (0, 0)).2 ≤ (m : Int)
          · have hbe' : Hid (∀ j, j < k + 1 → (L.getD j (0, 0)).2 ≤ (m : Int)) := Lib.hid fun j hj => by
              rcases Nat.lt_or_ge j k with h | h
              · exact hbe j h
              · obtain rfl : j = k := by omega
                exact hle
            clear hbe
            generalize (L.getD k (0, 0)).2 = t2 at *
            generalize (L.getD k (0, 0)).1 = t1 at *
            go_wp2
            go_roundw
            case rel => exact ⟨k + 1, by omega, by go_num, hbe'.out, trivial⟩
            case measure => simp [intOf]; omega
          · have hin : gW s g c f m = false ↔ k < L.length ∧ (L.getD k (0, 0)).1 ≤ (m : Int) := by rw [← pW_false]; exact spInv_in HSp.out hlt hk' hbe (fun _ => by omega)
            have hled : decide ((L.getD k (0, 0)).2 ≤ (m : Int)) = false := decide_eq_false hle
            by_cases hfr : (L.getD k (0, 0)).1 ≤ (m : Int)
            · have hz : gW s g c f m = false := hin.2 ⟨hkl, hfr⟩
              have hfrd : decide ((L.getD k (0, 0)).1 ≤ (m : Int)) = true := decide_eq_true hfr
              clear hle hfr
              generalize (L.getD k (0, 0)).2 = t2 at *
              generalize (L.getD k (0, 0)).1 = t1 at *
              have HGm := Lib.hid (fun W hW => HG.out m W hlt hW)
              obtain ⟨gb, goff, rfl, hgb, hgc⟩ := HA2.out m hlt
              rw [hz] at HGm
              generalize f m = fx at *
              clear hin hz
              go_wp2_with fail
              refine calls_after2 (HGm.out _ (HB2.out _)) ?_
              intro y
              go_wp2_with fail
              refine wp_region_after (by kernel_rfl) (by kernel_rfl) ?_; (repeat (first | go_big_quiet_step ((fail)) | (refine wpQuiet_step (fun K hK => ?_); go_simp; first | (refine hK _ ?_; clear hK K) | (apply Exists.intro; refine ⟨fun x => ?_, hK _ ?_⟩; (fail); clear hK K)))); refine wpQuiet_nil ?_
              intro z
              go_wp2
              go_roundw
              case rel => exact ⟨k, m + 1, hk', by omega, by go_num, rfl, fun j hj => by have := hbe j hj; omega, ⟨_, y.out.trans (z.out.mono y.out.size)⟩, rfl⟩
              case measure => simp [intOf]; omega
            · have hz : gW s g c f m = true := by
                cases h : gW s g c f m
                · exact absurd (hin.1 h).2 hfr
                · rfl
              have hfrd : decide ((L.getD k (0, 0)).1 ≤ (m : Int)) = false := decide_eq_false hfr
              clear hle hfr
              generalize (L.getD k (0, 0)).2 = t2 at *
              generalize (L.getD k (0, 0)).1 = t1 at *
              obtain ⟨hf0, hfs⟩ := HBl.out m hlt hz
              have HGm := Lib.hid (fun W hW => HG.out m W hlt hW)
              obtain ⟨gb, goff, rfl, hgb, hgc⟩ := HA2.out m hlt
              rw [hz] at HGm
              generalize f m = fx at *
              have hx0 : decide (fx < 0) = false := decide_eq_false (by omega)
              have hxs : decide (s ≤ fx) = false := decide_eq_false (by omega)
              clear hin hz hf0 hfs
              go_wp2_with fail
              refine calls_after2 (HGm.out _ (HB2.out _)) ?_
              intro y
              go_wp2_with fail
              refine wp_region_after (by kernel_rfl) (by kernel_rfl) ?_; (repeat (first | go_big_quiet_step ((fail)) | (refine wpQuiet_step (fun K hK => ?_); go_simp; first | (refine hK _ ?_; clear hK K) | (apply Exists.intro; refine ⟨fun x => ?_, hK _ ?_⟩; (fail); clear hK K)))); refine wpQuiet_nil ?_
              intro z
              go_wp2
              go_roundw
              case rel => exact ⟨k, m + 1, hk', by omega, by go_num, rfl, fun j hj => by have := hbe j hj; omega, ⟨_, y.out.trans (z.out.mono y.out.size)⟩, rfl⟩
              case measure => simp [intOf]; omega
        · have hin : gW s g c f m = false ↔ k < L.length ∧ (L.getD k (0, 0)).1 ≤ (m : Int) := by rw [← pW_false]; exact spInv_in HSp.out hlt hk' hbe (fun h => absurd h hkl)
          have hz : gW s g c f m = true := by
            cases h : gW s g c f m
            · exact absurd (hin.1 h).1 hkl
            · rfl
          have hkd : decide ((k : Int) < (L.length : Int)) = false := decide_eq_false (by omega)
          obtain ⟨hf0, hfs⟩ := HBl.out m hlt hz
          have HGm := Lib.hid (fun W hW => HG.out m W hlt hW)
          obtain ⟨gb, goff, rfl, hgb, hgc⟩ := HA2.out m hlt
          rw [hz] at HGm
          generalize f m = fx at *
          have hx0 : decide (fx < 0) = false := decide_eq_false (by omega)
          have hxs : decide (s ≤ fx) = false := decide_eq_false (by omega)
          clear hin hz hf0 hfs
          go_wp2_with fail
          refine calls_after2 (HGm.out _ (HB2.out _)) ?_
          intro y
          go_wp2_with fail
          refine wp_region_after (by kernel_rfl) (by kernel_rfl) ?_; (repeat (first | go_big_quiet_step ((fail)) | (refine wpQuiet_step (fun K hK => ?_); go_simp; first | (refine hK _ ?_; clear hK K) | (apply Exists.intro; refine ⟨fun x => ?_, hK _ ?_⟩; (fail); clear hK K)))); refine wpQuiet_nil ?_
          intro z
          go_wp2
          go_roundw
          case rel => exact ⟨k, m + 1, hk', by omega, by go_num, rfl, fun j hj => by have := hbe j hj; omega, ⟨_, y.out.trans (z.out.mono y.out.size)⟩, rfl⟩
          case measure => simp [intOf]; omega
    · obtain rfl : m = n := by omega
      clear hbef HG HBl hf
      go_wp2
      go_loopw [12] (fun i wr => ∃ k : Nat, 1 ≤ k ∧ i = .int .i64 k ∧ ∃ x : After w2, wr = x.w) (fun i _ => L.length - (intOf i).toNat)
      case atStart => exact ⟨1, by omega, rfl, x, rfl⟩
      case round =>
        obtain ⟨k, hk1, rfl, x, rfl⟩ := hrel
        by_cases hlt : k < L.length
        · obtain ⟨j, rfl⟩ : ∃ j, k = j + 1 := ⟨k - 1, by omega⟩
          have hlti : (((j + 1 : Nat) : Int)) < (L.length : Int) := by omega
          have hlti2 : (j : Int) + 1 < (L.length : Int) := by omega
          have hlti3 : (j : Int) < (L.length : Int) := by omega
          obtain ⟨sb, soff, rfl, hsb, c1, c2⟩ := HV.out (j + 1) hlt
          obtain ⟨sb', soff', e', hsb', d1, d2⟩ := HV.out j (by omega)
          cases e'
          have hlt12 := spInv_lt HSp.out (i := j) (j := j + 1) (by omega) hlt
          have hd : decide ((L.getD (j + 1) (0, 0)).1 ≤ (L.getD j (0, 0)).2) = false := decide_eq_false (by omega)
          clear hlt12
          generalize L.getD (j + 1) (0, 0) = t at *
          generalize L.getD j (0, 0) = t' at *
          obtain ⟨t1, t2⟩ := t
          obtain ⟨t1', t2'⟩ := t'
          dsimp only at *
          go_wp2_with fail
          refine wp_region_after (by kernel_rfl) (by kernel_rfl) ?_; (repeat (first | go_big_quiet_step ((fail)) | (refine wpQuiet_step (fun K hK => ?_); go_simp; first | (refine hK _ ?_; clear hK K) | (apply Exists.intro; refine ⟨fun x => ?_, hK _ ?_⟩; (fail); clear hK K)))); refine wpQuiet_nil ?_
          intro z
          go_wp2
          go_roundw
          case rel => exact ⟨j + 1 + 1, by omega, by go_num, ⟨_, x.out.trans (z.out.mono x.out.size)⟩, rfl⟩
          case measure => simp [intOf]; omega
        · have hkd : decide ((k : Int) < (L.length : Int)) = false := decide_eq_false (by omega)
          clear HSp HV
          by_cases hz : wn = 0
          · subst hz
            rw [if_pos rfl] at HRe
            go_wp2_with fail
            refine calls_after2 (HRe.out _ (HB2.out _)) ?_
            intro y
            go_wp2
            go_ret
            exact ⟨rfl, HB2.out _⟩
          · rw [if_neg hz] at HRe
            obtain ⟨N, rfl⟩ : ∃ N : Nat, wn = N := ⟨wn.toNat, by omega⟩
            have hN0 : N ≠ 0 := fun h => hz (by rw [h]; rfl)
            have hn0 : 0 < m := by
              rcases Nat.eq_zero_or_pos m with h | h
              · exact absurd (hw0 h) hz
              · exact h
            obtain ⟨R1, R2⟩ := HCalm.out N rfl hN0
            have R1 := Lib.hid R1
            have R2 := Lib.hid R2
            have hd1 : decide ((N : Int) < 1) = false := decide_eq_false (by omega)
            have hd2 : decide (c < (N : Int)) = false := decide_eq_false (by omega)
            have hNI : (N : Int) ≤ 240 := by omega
            obtain ⟨gb, goff, rfl, hgb, _⟩ := HA2.out 0 hn0
            have HC : Hid (∀ k, k < m → w2.cell? ⟨gb, goff + k, none⟩ = some (.int .i64 (f k))) := Lib.hid fun k hk => by
              obtain ⟨b', off', e', _, h⟩ := HA2.out k hk
              cases e'
              exact h
            obtain ⟨i0, hi, hz0, hz1, hz2⟩ := info_parts intInfow
            clear HCalm hz hw0 hwb
            go_wp2_with fail
            refine calls_after2 (HRe.out _ (HB2.out _)) ?_
            intro y
            have hCy : Hid (∀ k, k < m → (y.w.alloc (.cells #[] 3)).cell? ⟨gb, goff + k, none⟩ = some (.int .i64 (f k))) := Lib.hid fun k hk => by
              have := ((y.out.alloc y.out.size (.cells #[] 3)).cell (p := ⟨gb, goff + k, none⟩) hgb).trans (HC.out k hk)
              exact this
            go_wp2_with (at_builtin; refine wpList_append_own _ rfl _ _ 24 rfl w2.heap.size 3 i0 (.int .i64 0) 1 8 Tryd.underlying24 hi hz0 hz1 hz2 rfl (by decide) _ 0 [] rfl (World.ownsRow_lit y.w #[] 0 y.out.size (by unfold maxLen; omega) rfl) ⟨gb, goff, none⟩ m cap (rxs f m) rfl (by rw [rxs_len]; omega) (rxs_cells hCy.out) (rxs_one f m) (by unfold maxLen; omega) (by omega) (by have := y.out.size; simp; omega) ?_; intro v' w1 hown' hgrow _)
            have hb1 : Below w2.heap.size w2 w1 := (y.out.alloc y.out.size (.cells #[] 3)).grown hgrow (by have := y.out.size; simp; omega) (fun j e => by cases e; exact y.out.size)
            simp only [Nat.zero_add, List.nil_append] at hown'
            rw [← rxs_exF f m] at hown'
            obtain ⟨x4, rfl⟩ : ∃ x : After w2, w1 = x.w := ⟨⟨w1, hb1⟩, rfl⟩
            clear hgrow hb1 hCy HC HRe
            have hO0 : Hid (x4.w.ownsRow w2.heap.size 3 1 v' (m + 0) (rxs (exF f m) (m + 0))) := Lib.hid hown'
            clear hown'
            go_wp2
            go_loopw [15, 16] (fun v i wr => ∃ k : Nat, k ≤ N ∧ i = .int .i64 k ∧ ∃ x : After w2, wr = x.w ∧ Hid (x.w.ownsRow w2.heap.size 3 1 v (m + k) (rxs (exF f m) (m + k)))) (fun _ i _ => N - (intOf i).toNat)
            case atStart => exact ⟨0, by omega, rfl, x4, rfl, hO0⟩
            case round =>
              obtain ⟨k, hkN, rfl, x, rfl, hO⟩ := hrel
              by_cases hlt : k < N
              · have hlti : (k : Int) < (N : Int) := by omega
                obtain ⟨a0, cap0, rfl⟩ := ownsR_shape hO.out
                have hsx := x.out.size
                have hset : Hid (rxs (exF f m) (m + (k + 1)) = rxs (exF f m) (m + k) ++ [.int .i64 0]) := Lib.hid (by rw [← Nat.add_assoc, rxs_succ, exF_ge (by omega)])
                go_wp2_with (at_builtin; refine wpList_append_own _ rfl _ _ 24 rfl w2.heap.size 3 i0 (.int .i64 0) 1 8 Tryd.underlying24 hi hz0 hz1 hz2 rfl (by decide) _ _ _ rfl (hO.out.alloc _) ⟨x.w.heap.size, 0, none⟩ 1 1 [.int .i64 0] rfl rfl (World.news_of_block (cs := #[.int .i64 0]) (t := 3) (fr := (0, 0)) (heap_alloc_new x.w _)) (by simp [Value.oneCell']) (by unfold maxLen; omega) (by omega) (by simp; omega) ?_; intro v' w1 hown' hgrow _)
                go_roundw
                case rel => exact ⟨k + 1, by omega, by go_num, ⟨w1, (x.out.alloc hsx _).grown hgrow (by simp; omega) (fun j e => (hO.out.lt j e).1)⟩, rfl, Lib.hid (by rw [hset.out]; exact hown')⟩
                case measure => simp [intOf]; omega
              · obtain rfl : k = N := by omega
                obtain ⟨G, capv, rfl⟩ := Go.Joins.ownsRow_form hO.out (by omega)
                obtain ⟨M, hM⟩ : ∃ M, m + k = M + 1 := ⟨m + k - 1, by omega⟩
                rw [hM] at hO R1 R2
                have hI1 := Lib.hid (row_iat hO.out (m := M + 1) (Nat.le_refl _))
                have hI2 := Lib.hid (row_iat hO.out (m := M) (by omega))
                have hMI : (M : Int) ≤ 600 := by omega
                have HR1 := Lib.hid (fun W (hW : Below x.w.heap.size x.w W) => resumes_say s g c (some ⟨G, 0, none⟩) (M + 1) capv (exF f m) W (hI1.out.on hW))
                have HR2 := Lib.hid (fun W (hW : Below x.w.heap.size x.w W) => resumes_say s g c (some ⟨G, 0, none⟩) M capv (exF f m) W (hI2.out.on hW))
                rw [R1.out] at HR1
                rw [show M + 1 - 1 = M by omega] at R2
                rw [R2.out] at HR2
                rw [hM]
                have hcv := row_cap hO.out
                have hcvI : (M : Int) + 1 ≤ (capv : Int) := by omega
                have hcvI' : (M : Int) ≤ (capv : Int) := by omega
                have hcv0 : ¬ capv = 0 := by omega
                generalize reN s g c (M + 1) (exF f m) = n1 at *
                generalize reN s g c M (exF f m) = n2 at *
                have hlX : w.heap.size < x.w.heap.size := by have := x.out.size; omega
                have hBX := Lib.hid (HB2.out x)
                have rX := Lib.hid (r2.out.on x.out)
                clear hI1 hI2 hO hO0 R1 R2 q0 q1 q2 qf
                obtain ⟨q0, q1, q2, qf⟩ := rX.out
                generalize x.w = X at *
                go_wp2_with fail
                refine (HR1.out _ (Below.refl _ _)).mono ?_
                rintro e w5 ⟨rfl, hb5⟩
                obtain ⟨y1, rfl⟩ : ∃ y : After X, w5 = y.w := ⟨⟨w5, hb5⟩, rfl⟩
                have hB5 := Lib.hid (hBX.out.trans (hb5.mono hBX.out.size))
                go_wp2_with fail
                refine wp_region_after (by kernel_rfl) (by kernel_rfl) ?_; (repeat (first | go_big_quiet_step ((go_at_call 25; refine quiet_after (HR2.out _ ?_); (repeat' (first | (with_reducible exact Nat.le_refl _) | (with_reducible exact Below.refl _ _) | (with_reducible assumption) | (with_reducible refine Below.alloc ?_ ?_ _) | (with_reducible refine Below.drew ?_) | (with_reducible refine below_drewN ?_ _) | (with_reducible refine Below.setCell ?_ ?_ _) | (with_reducible refine below_after ?_ ?_ _) | (with_reducible refine below_set ?_) | (with_reducible refine After.size_le _ ?_) | (with_reducible refine size_alloc_le ?_) | (with_reducible refine size_set_le ?_) | (with_reducible refine size_drewN_le ?_) | go_size)))) | (refine wpQuiet_step (fun K hK => ?_); go_simp; first | (refine hK _ ?_; clear hK K) | (apply Exists.intro; refine ⟨fun x => ?_, hK _ ?_⟩; (go_at_call 25; refine quiet_after (HR2.out _ ?_); (repeat' (first | (with_reducible exact Nat.le_refl _) | (with_reducible exact Below.refl _ _) | (with_reducible assumption) | (with_reducible refine Below.alloc ?_ ?_ _) | (with_reducible refine Below.drew ?_) | (with_reducible refine below_drewN ?_ _) | (with_reducible refine Below.setCell ?_ ?_ _) | (with_reducible refine below_after ?_ ?_ _) | (with_reducible refine below_set ?_) | (with_reducible refine After.size_le _ ?_) | (with_reducible refine size_alloc_le ?_) | (with_reducible refine size_set_le ?_) | (with_reducible refine size_drewN_le ?_) | go_size))); clear hK K)))); refine wpQuiet_nil ?_
                intro y2
                have hB6 := Lib.hid (hB5.out.trans (y2.out.mono hB5.out.size))
                go_wp2
                go_ret
                exact ⟨rfl, hB6.out⟩
end Go.Proofs.YtfmoedlnjlkiiaaDoor
