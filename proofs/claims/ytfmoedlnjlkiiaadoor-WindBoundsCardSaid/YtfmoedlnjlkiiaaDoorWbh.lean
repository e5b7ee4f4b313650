/- Bounds in the reference: the walk. -/
import Derived.Test.YtfmoedlnjlkiiaaDoorWbg
namespace Go.Proofs.YtfmoedlnjlkiiaaDoor
open Go.RowKit
attribute [local go_sem] After.cell After.frozen After.lt After.le After.ne After.ne' After.set_eq After.size_set After.lt_add

theorem BxI.cg {W : World} {X N : Nat} {h1 k1 : Nat → Int} (b : BxI W X N h1) (e : ∀ i, i < N → h1 i = k1 i) : BxI W X N k1 := by
  have g1 : irA h1 N = irA k1 N := by
    unfold irA
    apply Array.ext_getElem?
    intro i
    rw [Array.getElem?_map, Array.getElem?_map]
    by_cases hi : i < N
    · rw [Array.getElem?_range, if_pos hi]; exact congrArg (fun z => some (Value.int .i64 z)) (e i hi)
    · rw [Array.getElem?_range, if_neg hi]; rfl
  exact ⟨by rw [← g1]; exact b.obj⟩

theorem rr_pos {s g c : Int} {S : Int → Int → Prop} {n : Nat} {f : Nat → Int} {k j : Nat} {T : Nat → Ty} (h : RepR s g c S n f k j T) (hS : ∀ v m, S v m → 0 ≤ m) {v : Nat} (hv : (v : Int) ≤ c) : ∀ p, T v = some p → 0 ≤ p.1 := by
  intro p hp
  have h1 := h v hv
  rw [hp] at h1
  obtain ⟨w, x, _, m0, h2, _, h3⟩ := h1.1
  have := hS _ _ h2
  rw [h3]
  unfold goD
  split <;> omega
theorem lo_upd {T : Nat → Ty} {r : Nat} {A B : Int} (hp : ∀ p, T r = some p → 0 ≤ p.1) : (loN (T r) < 0 ∨ A < loN (T r) → ∀ i : Nat, (if i = r then A else loN (T i)) = loN (setT T r (orT (T r) (some (A, B))) i)) ∧ (¬ (loN (T r) < 0 ∨ A < loN (T r)) → ∀ i : Nat, loN (T i) = loN (setT T r (orT (T r) (some (A, B))) i)) := by
  constructor
  · intro h i
    unfold setT
    by_cases e : i = r
    · rw [if_pos e, if_pos e, lo_or hp, if_pos h]
    · rw [if_neg e, if_neg e]
  · intro h i
    unfold setT
    by_cases e : i = r
    · rw [if_pos e, lo_or hp, if_neg h, e]
    · rw [if_neg e]
theorem hi_upd {T : Nat → Ty} {r : Nat} {A B : Int} (hB : 0 ≤ B) : (hiN (T r) < B → ∀ i : Nat, (if i = r then B else hiN (T i)) = hiN (setT T r (orT (T r) (some (A, B))) i)) ∧ (¬ hiN (T r) < B → ∀ i : Nat, hiN (T i) = hiN (setT T r (orT (T r) (some (A, B))) i)) := by
  constructor
  · intro h i
    unfold setT
    by_cases e : i = r
    · rw [if_pos e, if_pos e, hi_or hB, if_pos h]
    · rw [if_neg e, if_neg e]
  · intro h i
    unfold setT
    by_cases e : i = r
    · rw [if_pos e, hi_or hB, if_neg h, e]
    · rw [if_neg e]
theorem wi_go {d : Int} {b : Bool} {p1 p2 : Int} (hd : d = if b = true then 1 else 0) (h1 : 0 ≤ p1) (h2 : 0 ≤ p2) (h3 : p1 ≤ 3000) (h4 : p2 ≤ 3000) : ∃ A B : Int, wiT d (some (p1, p2)) = some (A, B) ∧ (0 ≤ A ∧ 0 ≤ B) ∧ (b = true → IntKind.i64.wrap (p1 + 1) = A ∧ IntKind.i64.wrap (p2 + 1) = B) ∧ (b = false → A = p1 ∧ B = p2) := by
  subst hd
  cases b
  · exact ⟨p1, p2, by simp [wiT], ⟨h1, h2⟩, fun h => absurd h (by decide), fun _ => ⟨rfl, rfl⟩⟩
  · exact ⟨p1 + 1, p2 + 1, rfl, ⟨by omega, by omega⟩, fun _ => ⟨by rw [IntKind.wrap_i64]; omega, by rw [IntKind.wrap_i64]; omega⟩, fun h => absurd h (by decide)⟩
/-- The reference's states up to the k-th together. -/
def UpR (s g c : Int) (f : Nat → Int) (n k : Nat) (m : Int) : Prop := ∃ r : Nat, r < k ∧ SS s g c f n (winv c r) m
theorem upr_succ {s g c : Int} {f : Nat → Int} {n k : Nat} {U t : Ty} (h : Rep (UpR s g c f n k) U) (ht : Rep (SS s g c f n (winv c k)) t) : Rep (UpR s g c f n (k + 1)) (orT U t) := by
  refine rep_iff (rep_or h ht) fun m => ⟨?_, ?_⟩
  · rintro (⟨v, h1, h3⟩ | h3)
    · exact ⟨v, by omega, h3⟩
    · exact ⟨k, by omega, h3⟩
  · rintro ⟨v, h1, h3⟩
    by_cases e : v = k
    · subst e; exact .inr h3
    · exact .inl ⟨v, by omega, h3⟩
theorem upr_all {s g c : Int} (hc : 1 ≤ c) {f : Nat → Int} {n N : Nat} (hN : c + 1 = N) {U : Ty} (h : Rep (UpR s g c f n N) U) : Rep (AllS s g c f n) U :=
  rep_iff h fun m => ⟨fun ⟨v, _, h⟩ => ⟨_, h⟩, fun ⟨v, h⟩ => by
    obtain ⟨r, h1, h2, _⟩ := winv_of (ss_bd hc h).1
    exact ⟨r, by omega, by rw [h2]; exact h⟩⟩
theorem or_none (U : Ty) : orT U none = U := by cases U <;> rfl
theorem upr_pos {s g c : Int} (hc : 1 ≤ c) {f : Nat → Int} {n k : Nat} {U : Ty} (h : Rep (UpR s g c f n k) U) : ∀ p, U = some p → 0 ≤ p.1 := by
  rintro p rfl
  obtain ⟨r, _, h1⟩ := h.1
  exact (ss_bd hc h1).2.1
set_option maxRecDepth 100000 in
set_option maxHeartbeats 4000000 in
theorem rbounds_good (s g c : Int) (a : Option Addr) (n cap : Nat) (f : Nat → Int) (w : World) (hA : IAt w a n f) (hn : n ≤ 9223372036854775807) (hk : AskB s g c n f = true) :
    Calls Tryd.prog 28 #[.agg #[.int .i64 s, .int .i64 g, .int .i64 c], .slice a n cap] w fun e w' => PBn (AskB s g c n f) (AllS s g c f n) e ∧ Below w.heap.size w w' := by
  have HV := Lib.hid (fun W (hW : Below w.heap.size w W) => asked_any s g c a n cap f W (hA.on hW) hn)
  obtain ⟨h1, h2⟩ := askB_good hk
  have hGR := Lib.hid (show (1 ≤ s ∧ s ≤ 200) ∧ (1 ≤ g ∧ g ≤ s) ∧ (1 ≤ c ∧ c ≤ 240) from h2)
  rw [hk] at HV ⊢
  obtain ⟨N, hN⟩ : ∃ N : Nat, c + 1 = (N : Int) := ⟨(c + 1).toNat, by have := hGR.out; omega⟩
  have hN241 : N ≤ 241 := by have := hGR.out; omega
  have HNc := Lib.hid hN
  obtain ⟨i0, hi, hz0, hz1, hz2⟩ := info_parts intInfow
  have hmk := fun w' => run_make (P := Tryd.prog) w' 24 3 i0 _ Tryd.underlying24 hi hz0 .i64 .i64 (N : Int) (N : Int) (by omega) (by omega) (by rw [hz2]; omega) (by omega)
  rw [hz1] at hmk
  simp only [Int.toNat_natCast] at hmk
  have e0 : (Value.int .i64 0).cells = #[.int .i64 0] := rfl
  simp only [e0, made_irA] at hmk
  have hwN : IntKind.i64.wrap (N : Int) = N := by rw [IntKind.wrap_i64]; omega
  have hcb := hGR.out.2.2.1
  have hcb2 := hGR.out.2.2.2
  have hGn := Lib.hid h1.1
  have hGG := Lib.hid h1
  clear h1 h2 e0 hi hz0 hz1 hz2
  have HA := Lib.hid hA
  clear hA
  go_enter Tryd.func28, Tryd.ntmps28
  go_wp2_with fail
  refine calls_after (HV.out _ (by (repeat' (first | (with_reducible exact Below.refl _ _) | (with_reducible assumption) | (with_reducible refine Below.alloc ?_ ?_ _) | (with_reducible refine Below.drew ?_) | (with_reducible refine below_drewN ?_ _) | (with_reducible refine Below.setCell ?_ ?_ _) | (with_reducible refine below_after ?_ ?_ _) | (with_reducible refine below_set ?_) | (with_reducible refine After.size_le _ ?_) | (with_reducible refine size_alloc_le ?_) | (with_reducible refine size_set_le ?_) | (with_reducible refine size_drewN_le ?_) | go_size)))) ?_
  intro x1
  have hr0 : x1.w.heap[w.heap.size]? = some (.cells #[.int .i64 s, .int .i64 g, .int .i64 c] 23 (0, 0)) := obj_on (heap_alloc_new w _) x1.out
  have hB1 : Below w.heap.size w x1.w := by (repeat' (first | (with_reducible exact Below.refl _ _) | (with_reducible assumption) | (with_reducible refine Below.alloc ?_ ?_ _) | (with_reducible refine Below.drew ?_) | (with_reducible refine below_drewN ?_ _) | (with_reducible refine Below.setCell ?_ ?_ _) | (with_reducible refine below_after ?_ ?_ _) | (with_reducible refine below_set ?_) | (with_reducible refine After.size_le _ ?_) | (with_reducible refine size_alloc_le ?_) | (with_reducible refine size_set_le ?_) | (with_reducible refine size_drewN_le ?_) | go_size))
  have hs1 : w.heap.size < x1.w.heap.size := obj_lt hr0
  go_upto_region 4 with (fail)
  go_cut [8, 9] (fun u v wx => ∃ X Y, u = .slice (some ⟨X, 0, none⟩) N N ∧ v = .slice (some ⟨Y, 0, none⟩) N N ∧ TwR w wx s g c X Y N (fun _ => 0) (fun _ => 0))
  case first =>
    go_region_with (fail)
    all_goals
      go_wp2
      go_meet
      case rel => first
        | exact ⟨_, _, rfl, rfl, twr_new (W := x1.w.drew) hr0 (hB1.drew)⟩
        | exact ⟨_, _, rfl, rfl, (twr_new (W := x1.w.drew) hr0 (hB1.drew)).swap⟩
  case rest =>
    obtain ⟨X, Y, rfl, rfl, HT0⟩ := hcut
    have HT := Lib.hid HT0
    clear HT0 hr0 hB1 hs1
    go_wp2
    go_loopw [10] (fun i wr => ∃ k : Nat, 1 ≤ k ∧ k ≤ N ∧ i = .int .i64 k ∧ Hid (TwR w wr s g c X Y N (ini k) (ini k))) (fun i _ => N - (intOf i).toNat)
    case atStart => exact ⟨1, Nat.le_refl _, by omega, rfl, Lib.hid (HT.out.congr (fun i _ => by unfold ini; rw [if_neg (by omega)]) (fun i _ => by unfold ini; rw [if_neg (by omega)]))⟩
    case round =>
      obtain ⟨k, hk1, hk, rfl, HR⟩ := hrel
      obtain ⟨r0, r1, r2⟩ := HR.out.rule
      by_cases hlt : k < N
      · have hlti : (k : Int) ≤ c := by omega
        have hkN : (k : Int) < (N : Int) := by omega
        have a0 := HR.out.a.cell hlt
        have b0 := HR.out.b.cell hlt
        have fa := HR.out.a.free k
        have fb := HR.out.b.free k
        have hne := HR.out.ne
        have hnx : X ≠ w.heap.size := Nat.ne_of_gt HR.out.lx
        have hny : Y ≠ w.heap.size := Nat.ne_of_gt HR.out.ly
        go_wp2
        go_roundw
        case rel => exact ⟨k + 1, by omega, by omega, by go_num, Lib.hid (((HR.out.setA k (-1)).setB k (-1)).congr (fun i _ => by unfold ini; split <;> split <;> first | rfl | omega | (split <;> first | rfl | omega)) (fun i _ => by unfold ini; split <;> split <;> first | rfl | omega | (split <;> first | rfl | omega)))⟩
        case measure => simp [intOf]; omega
      · obtain rfl : N = k := by omega
        have hltn : ¬ (N : Int) ≤ c := by omega
        go_wp2
        have HR0 : Hid (TwR w wr s g c X Y N (fun i => loN (setT (fun _ => none) 0 (some (0, 0)) i)) (fun i => hiN (setT (fun _ => none) 0 (some (0, 0)) i))) := Lib.hid (HR.out.congr
          (fun i hi => by unfold ini setT; by_cases e : i = 0
                          · subst e; rfl
                          · rw [if_pos (by omega), if_neg e]; rfl)
          (fun i hi => by unfold ini setT; by_cases e : i = 0
                          · subst e; rfl
                          · rw [if_pos (by omega), if_neg e]; rfl))
        have HS0 : Hid (∀ r : Nat, (r : Int) ≤ c → Rep (SS s g c f 0 (winv c r)) (setT (fun _ => none) 0 (some (0, 0)) r)) := Lib.hid (fun r hr => by
          unfold setT
          by_cases e : r = 0
          · subst e
            exact ⟨⟨rfl, rfl⟩, ⟨rfl, rfl⟩, fun m hm => by obtain ⟨_, rfl⟩ := hm; exact ⟨Int.le_refl _, Int.le_refl _⟩⟩
          · rw [if_neg e]
            intro m hm
            have := hm.1
            unfold winv at this
            rw [if_neg e] at this
            omega)
        clear HR r0 r1 r2 hltn HT
        have hnI : (n : Int) ≤ 2000 := by have := hGn.out; omega
        go_loopw [8, 9, 11, 12, 13, 14, 15, 16, 17, 18, 19, 20, 21] (fun u v i _ _ _ _ _ _ _ _ _ _ wr => ∃ k : Nat, k ≤ n ∧ i = .int .i64 k ∧ ∃ X Y, u = .slice (some ⟨X, 0, none⟩) N N ∧ v = .slice (some ⟨Y, 0, none⟩) N N ∧ ∃ T : Nat → Ty, Hid (TwR w wr s g c X Y N (fun i => loN (T i)) (fun i => hiN (T i))) ∧ Hid (∀ r : Nat, (r : Int) ≤ c → Rep (SS s g c f k (winv c r)) (T r))) (fun _ _ i _ _ _ _ _ _ _ _ _ _ _ => n - (intOf i).toNat)
        case atStart => exact ⟨0, by omega, rfl, X, Y, rfl, rfl, _, HR0, HS0⟩
        case round =>
          obtain ⟨k, hk, rfl, X, Y, rfl, rfl, T, HR, HS⟩ := hrel
          by_cases hkn : k < n
          · have hkI : (k : Int) < (n : Int) := by omega
            obtain ⟨b, off, rfl, hb, c1⟩ := (HA.out.on HR.out.be) k hkn
            obtain ⟨r0, r1, r2⟩ := HR.out.rule
            have hok := hGG.out.2 k hkn
            unfold OkG Btw at hok
            have hrl := obj_lt HR.out.ru
            have hSk : Hid (SS s g c f (k + 1) = Acc s g c (SS s g c f k) fun _ x => Can (f k) x) := Lib.hid rfl
            have hsd := Lib.hid (fun v mm (h : SS s g c f k v mm) => ss_bd hcb h)
            generalize hSS : SS s g c f (k + 1) = S1 at *
            have HSS := Lib.hid hSS
            clear hSS
            generalize SS s g c f k = S at *
            generalize f k = y at *
            have hwg : IntKind.i64.wrap (g - 1) = g - 1 := by have := hGR.out; rw [IntKind.wrap_i64]; omega
            have hws : IntKind.i64.wrap (s - 1) = s - 1 := by have := hGR.out; rw [IntKind.wrap_i64]; omega
            go_upto_if 66 with (fail)
            go_cut [12] (fun gs wx => ∃ (B M cap1 : Nat) (H : Nat → Int), gs = .slice (some ⟨B, 0, none⟩) M cap1 ∧ M ≤ 5 ∧ Hid (TwR w wx s g c X Y N (fun i => loN (T i)) (fun i => hiN (T i))) ∧ Hid (IAt wx (some ⟨B, 0, none⟩) M H) ∧ Hid (∀ i, i < M → -1 ≤ H i) ∧ Hid (∀ v mm, Acc s g c S (fun _ x => ∃ i, i < M ∧ x = H i) v mm ↔ S1 v mm))
            case first =>
              by_cases hy : y < 0
              · obtain rfl : y = -1 := by omega
                clear hok hy
                go_wp2
                go_meet
                case rel =>
                  have hB2 : Below wr.heap.size wr ((wr.alloc (.cells #[.int .i64 (-1)] 3)).alloc (.cells #[.int .i64 0, .int .i64 (g - 1), .int .i64 g, .int .i64 (s - 1), .int .i64 s] 3)) := ((Below.refl _ wr).alloc (Nat.le_refl _) _).alloc (by simp) _
                  refine ⟨_, 5, _, fun i : Nat => if i = 0 then 0 else if i = 1 then g - 1 else if i = 2 then g else if i = 3 then s - 1 else s, rfl, by omega, Lib.hid (HR.out.on hB2), Lib.hid fun i hi => ⟨_, 0, rfl, by simp, ?_⟩, Lib.hid fun i _ => ?_, Lib.hid fun v mm => ?_⟩
                  · rcases (show i = 0 ∨ i = 1 ∨ i = 2 ∨ i = 3 ∨ i = 4 by omega) with rfl | rfl | rfl | rfl | rfl <;> simp [go_sem]
                  · have := hGR.out
                    dsimp only
                    split <;> (try split) <;> (try split) <;> (try split) <;> omega
                  · rw [hSk.out]
                    refine acc_gusts hGR.out.1 hGR.out.2.1 ?_ (fun h => absurd rfl h) (fun _ => ⟨0, by omega, rfl⟩) (fun _ => ⟨4, by omega, rfl⟩)
                    rintro x ⟨i, hi, rfl⟩
                    have := hGR.out
                    unfold Can
                    rw [if_pos rfl]
                    dsimp only
                    split <;> (try split) <;> (try split) <;> (try split) <;> omega
              · have hyd : decide (y < 0) = false := decide_eq_false hy
                go_wp2
                go_meet
                case rel =>
                  have hB2 : Below wr.heap.size wr (wr.alloc (.cells #[.int .i64 y] 3)) := (Below.refl _ wr).alloc (Nat.le_refl _) _
                  refine ⟨_, 1, _, fun _ : Nat => y, rfl, by omega, Lib.hid (HR.out.on hB2), Lib.hid fun i hi => ⟨_, 0, rfl, by simp, ?_⟩, Lib.hid fun i _ => hok.1, Lib.hid fun v mm => ?_⟩
                  · obtain rfl : i = 0 := by omega
                    simp [go_sem]
                  · rw [hSk.out]
                    refine acc_gusts hGR.out.1 hGR.out.2.1 ?_ (fun _ => ⟨0, by omega, rfl⟩) (fun h => absurd h (by omega)) (fun h => absurd h (by omega))
                    rintro x ⟨i, hi, rfl⟩
                    unfold Can
                    rw [if_neg (by omega)]
            case rest =>
              obtain ⟨B, M, cap1, H, rfl, hM5, hTV, hIV, hH1, hH2⟩ := hcut
              clear hok HR hSk r0 r1 r2 hrl hwg hws
              generalize wc = V at *
              go_upto_region 15 with (fail)
              have hVr := obj_lt hTV.out.ru
              obtain ⟨v0, v1, v2⟩ := hTV.out.rule
              have hXV := obj_lt hTV.out.a.obj
              have hYV := obj_lt hTV.out.b.obj
              go_cut [12, 13, 14] (fun gs u v wx => ∃ (B M cap : Nat) (H : Nat → Int), gs = .slice (some ⟨B, 0, none⟩) M cap ∧ M ≤ 5 ∧ Hid (IAt V (some ⟨B, 0, none⟩) M H) ∧ Hid (∀ i, i < M → -1 ≤ H i) ∧ Hid (∀ v mm, Acc s g c S (fun _ x => ∃ i, i < M ∧ x = H i) v mm ↔ S1 v mm) ∧ ∃ X' Y', u = .slice (some ⟨X', 0, none⟩) N N ∧ v = .slice (some ⟨Y', 0, none⟩) N N ∧ X' ≠ Y' ∧ V.heap.size ≤ X' ∧ V.heap.size ≤ Y' ∧ Below V.heap.size V wx ∧ BxI wx X' N (fun _ => 0) ∧ BxI wx Y' N (fun _ => 0))
              case first =>
                go_region_with (fail)
                all_goals
                  go_wp2
                  go_meet
                  case rel => first
                    | (have h := twr_new (W := V.drew) (h1 := fun _ => 0) (h2 := fun _ => 0) (N := N) hTV.out.ru hTV.out.be.drew
                       exact ⟨_, _, _, _, rfl, by omega, hIV, hH1, hH2, _, _, rfl, rfl, h.ne, Nat.le_refl _, Nat.le_succ _, (((Below.refl _ V).drew).alloc (Nat.le_refl _) _).alloc (by simp) _, h.a, h.b⟩)
                    | (have h := (twr_new (W := V.drew) (h1 := fun _ => 0) (h2 := fun _ => 0) (N := N) hTV.out.ru hTV.out.be.drew).swap
                       exact ⟨_, _, _, _, rfl, by omega, hIV, hH1, hH2, _, _, rfl, rfl, h.ne, Nat.le_succ _, Nat.le_refl _, (((Below.refl _ V).drew).alloc (Nat.le_refl _) _).alloc (by simp) _, h.a, h.b⟩)
              case rest =>
                obtain ⟨B, M, cap2, H, rfl, hM5, hIM, hHM, hAM, X', Y', rfl, rfl, hne, hX', hY', hBV, hA', hB'⟩ := hcut
                have HA' := Lib.hid hA'
                have HB' := Lib.hid hB'
                obtain ⟨x0, rfl⟩ := after_ofb hBV
                clear hA' hB' hBV
                have HXV := Lib.hid hX'
                have HYV := Lib.hid hY'
                have HNe := Lib.hid hne
                clear hIV hH1 hH2
                go_wp2
                go_loopw [15] (fun i W => ∃ j : Nat, j ≤ N ∧ i = .int .i64 j ∧ ∃ x : After V, W = x.w ∧ Hid (BxI x.w X' N (fun i => if i < j then -1 else 0)) ∧ Hid (BxI x.w Y' N (fun i => if i < j then -1 else 0))) (fun i _ => N - (intOf i).toNat)
                case atStart => exact ⟨0, by omega, rfl, x0, rfl, Lib.hid (HA'.out.cg fun i _ => by rw [if_neg (by omega)]), Lib.hid (HB'.out.cg fun i _ => by rw [if_neg (by omega)])⟩
                case round =>
                  obtain ⟨j, hj, rfl, x, rfl, HL, HH⟩ := hrel
                  by_cases hjN : j < N
                  · have hji : (j : Int) ≤ c := by omega
                    have hjN2 : (j : Int) < (N : Int) := by omega
                    have a0 := HL.out.cell hjN
                    have b0 := HH.out.cell hjN
                    have fa := HL.out.free j
                    have fb := HH.out.free j
                    have hne := HNe.out
                    have hne' := hne.symm
                    have q2 := (x.cell ⟨w.heap.size, 2, none⟩ hVr).trans v2
                    have hBx := Lib.hid x.out
                    have nx : X' ≠ w.heap.size := by have := HXV.out; omega
                    have ny : Y' ≠ w.heap.size := by have := HYV.out; omega
                    generalize x.w = Wx at *
                    go_wp2
                    go_roundw
                    case rel => exact ⟨j + 1, by omega, by go_num, ⟨_, (hBx.out.setCell (by exact HXV.out) _).setCell (by exact HYV.out) _⟩, rfl, Lib.hid (((HL.out.set j (-1)).other HNe.out j _).cg fun i _ => by split <;> split <;> first | rfl | omega | (split <;> first | rfl | omega)), Lib.hid (((HH.out.other HNe.out.symm j _).set j (-1)).cg fun i _ => by split <;> split <;> first | rfl | omega | (split <;> first | rfl | omega))⟩
                    case measure => simp [intOf]; omega
                  · obtain rfl : N = j := by omega
                    have hji : ¬ (N : Int) ≤ c := by omega
                    go_wp2
                    go_loopw [16, 17, 18, 19, 20, 21] (fun i _ _ _ _ _ W => ∃ j : Nat, j ≤ N ∧ i = .int .i64 j ∧ ∃ x : After V, W = x.w ∧ ∃ T' : Nat → Ty, Hid (BxI x.w X' N (fun i => loN (T' i))) ∧ Hid (BxI x.w Y' N (fun i => hiN (T' i))) ∧ Hid (RepR s g c S M H j 0 T')) (fun i _ _ _ _ _ _ => N - (intOf i).toNat)
                    case atStart => exact ⟨0, by omega, rfl, x, rfl, fun _ => none, Lib.hid (HL.out.cg fun i hi => by rw [if_pos hi]; rfl), Lib.hid (HH.out.cg fun i hi => by rw [if_pos hi]; rfl), Lib.hid rr_zero⟩
                    case round =>
                      obtain ⟨j, hj, rfl, x, rfl, T', HL, HH, HR'⟩ := hrel
                      have TW := Lib.hid (hTV.out.on x.out)
                      obtain ⟨q0, q1, q2⟩ := TW.out.rule
                      by_cases hjN : j < N
                      · have hjc : (j : Int) ≤ c := by omega
                        have hjN2 : (j : Int) < (N : Int) := by omega
                        rcases hT : T j with _ | ⟨p1, p2⟩
                        · have m1 : x.w.cell? ⟨Y, j, none⟩ = some (.int .i64 (-1)) := by
                            have h := TW.out.b.cell hjN
                            (try dsimp only at h)
                            rw [hT] at h
                            exact h
                          have HRn := Lib.hid (rr_skip (by have h := HS.out j hjc; rw [hT] at h; exact h) HR'.out)
                          clear hT
                          go_wp2
                          go_roundw
                          case rel => exact ⟨j + 1, by omega, by go_num, x, rfl, T', HL, HH, HRn⟩
                          case measure => simp [intOf]; omega
                        · have Hpp : Hid (Rep (S (winv c j)) (some (p1, p2))) := Lib.hid (by have h := HS.out j hjc; rw [hT] at h; exact h)
                          have hb1 := (hsd.out _ _ Hpp.out.1).2
                          have hb2 := (hsd.out _ _ Hpp.out.2.1).2
                          (try dsimp only at hb1)
                          (try dsimp only at hb2)
                          have m1 : x.w.cell? ⟨Y, j, none⟩ = some (.int .i64 p2) := by
                            have h := TW.out.b.cell hjN
                            (try dsimp only at h)
                            rw [hT] at h
                            exact h
                          have vX : V.cell? ⟨X, j, none⟩ = some (.int .i64 p1) := by
                            have h := hTV.out.a.cell hjN
                            (try dsimp only at h)
                            rw [hT] at h
                            exact h
                          have vY : V.cell? ⟨Y, j, none⟩ = some (.int .i64 p2) := by
                            have h := hTV.out.b.cell hjN
                            (try dsimp only at h)
                            rw [hT] at h
                            exact h
                          have hp2 : ¬ p2 < 0 := by omega
                          have hP := Lib.hid (And.intro hb1 hb2)
                          clear hT hb1 hb2
                          go_wp2
                          go_loopw [17, 18, 19, 20, 21] (fun i _ _ _ _ W => ∃ kk : Nat, kk ≤ M ∧ i = .int .i64 kk ∧ ∃ x : After V, W = x.w ∧ ∃ T' : Nat → Ty, Hid (BxI x.w X' N (fun i => loN (T' i))) ∧ Hid (BxI x.w Y' N (fun i => hiN (T' i))) ∧ Hid (RepR s g c S M H j kk T')) (fun i _ _ _ _ _ => M - (intOf i).toNat)
                          case atStart => exact ⟨0, by omega, rfl, x, rfl, T', HL, HH, HR'⟩
                          case round =>
                            clear m1 q0 q1 q2 TW HL HH HR'
                            obtain ⟨kk, hkk, rfl, x2, rfl, T2, HL2, HH2, HR2⟩ := hrel
                            by_cases hkM : kk < M
                            · have hkM2 : (kk : Int) < (M : Int) := by omega
                              obtain ⟨b, off, e, hb, c1⟩ := (hIM.out.on x2.out) kk hkM
                              cases e
                              rw [Nat.zero_add] at c1
                              have hxx := hHM.out kk hkM
                              obtain ⟨r', hr', e1, e2, e3⟩ := nxS_winv (s := s) (g := g) hcb hjc hxx
                              have hr'N : r' < N := by omega
                              have hNx := Lib.hid (fun W => rnext_any s g c ((j : Int) - 1) (H kk) W (by omega) (by omega))
                              have hwj : IntKind.i64.wrap ((j : Int) - 1) = (j : Int) - 1 := by rw [IntKind.wrap_i64]; omega
                              have hwt : IntKind.i64.wrap (nxS s g c ((j : Int) - 1) (H kk) + 1) = (r' : Int) := by rw [e1, IntKind.wrap_i64]; omega
                              have HpU := Lib.hid (rr_pos HR2.out (fun v m h => (hsd.out v m h).2.1) hr')
                              have hst := rr_step HR2.out Hpp.out hr' e2
                              obtain ⟨A, Bv, hAB, HAB0, hgt, hgf⟩ := wi_go (p1 := p1) (p2 := p2) e3 (by have := hP.out; omega) (by have := hP.out; omega) (by have := hP.out; omega) (by have := hP.out; omega)
                              rw [hAB] at hst
                              have HRs := Lib.hid hst
                              have HB0 := Lib.hid HAB0.2
                              clear e1 e2 e3 hst hAB HAB0 hxx HR2
                              generalize nxS s g c ((j : Int) - 1) (H kk) = tt at *
                              generalize gxS s ((j : Int) - 1) (H kk) = go at *
                              generalize H kk = hx at *
                              have TW2 := Lib.hid (hTV.out.on x2.out)
                              obtain ⟨q0, q1, q2⟩ := TW2.out.rule
                              have lX := (x2.cell ⟨X, j, none⟩ hXV).trans vX
                              have lY := (x2.cell ⟨Y, j, none⟩ hYV).trans vY
                              have hBx := Lib.hid x2.out
                              have hs0 := Nat.lt_of_lt_of_le hVr x2.out.size
                              have hs1 := Nat.lt_of_lt_of_le hXV x2.out.size
                              have hs2 := Nat.lt_of_lt_of_le hYV x2.out.size
                              clear TW2
                              generalize x2.w = Wx at *
                              have hwt' := Lib.hid hwt
                              have hgt' := Lib.hid hgt
                              have hgf' := Lib.hid hgf
                              clear hwt hgt hgf
                              go_wp2
                              refine wp_region_after (by kernel_rfl) (by kernel_rfl) ?_; (repeat (first | go_big_quiet_step ((go_at_call 65; exact quiet_after (hNx.out _))) | (refine wpQuiet_step (fun K hK => ?_); go_simp; first | (refine hK _ ?_; clear hK K) | (apply Exists.intro; refine ⟨fun x => ?_, hK _ ?_⟩; (go_at_call 65; exact quiet_after (hNx.out _)); clear hK K)))); refine wpQuiet_nil ?_
                              intro y1
                              go_wp2
                              refine wp_region_after (by kernel_rfl) (by kernel_rfl) ?_; (repeat (first | go_big_quiet_step ((fail)) | (refine wpQuiet_step (fun K hK => ?_); go_simp; first | (refine hK _ ?_; clear hK K) | (apply Exists.intro; refine ⟨fun x => ?_, hK _ ?_⟩; (fail); clear hK K)))); refine wpQuiet_nil ?_
                              intro y2
                              -- POINT
                              have HZ1 := Lib.hid (HL2.out.on (y1.out.trans (y2.out.mono y1.out.size)))
                              have HZ2 := Lib.hid (HH2.out.on (y1.out.trans (y2.out.mono y1.out.size)))
                              have hBz := Lib.hid (hBx.out.trans ((y1.out.trans (y2.out.mono y1.out.size)).mono hBx.out.size))
                              clear HL2 HH2 hBx q0 q1 q2 lX lY hs0 hs1 hs2 c1 hb
                              generalize y2.w = Wz at *
                              go_upto_if 134 with (fail)
                              go_cut [20, 21] (fun a b wx => a = .int .i64 A ∧ b = .int .i64 Bv ∧ wx = Wz)
                              case first =>
                                cases go
                                · obtain ⟨rfl, rfl⟩ := hgf'.out rfl
                                  clear hgt' hgf' hwt'
                                  go_wp2
                                  go_meet
                                  case rel => exact ⟨rfl, rfl, rfl⟩
                                · obtain ⟨hwA, hwB⟩ := hgt'.out rfl
                                  clear hgt' hgf' hwt'
                                  go_wp2
                                  go_meet
                                  case rel => exact ⟨rfl, rfl, rfl⟩
                              case rest =>
                                obtain ⟨rfl, rfl, hWz⟩ := hcut
                                subst hWz
                                have hwt := hwt'.out
                                clear hgt' hgf' hwt'
                                have HqL := Lib.hid (lo_upd (A := A) (B := Bv) HpU.out)
                                have HqH := Lib.hid (hi_upd (T := T2) (r := r') (A := A) (B := Bv) HB0.out)
                                clear HpU HB0
                                generalize setT T2 r' (orT (T2 r') (some (A, Bv))) = U at *
                                have l1 := HZ1.out.cell hr'N
                                have fa := HZ1.out.free r'
                                (try dsimp only at l1)
                                generalize wc = Wq at *
                                generalize loN (T2 r') = lo at *
                                go_upto_region 32 with (fail)
                                go_cut [153] (fun b wx => b = .bool (decide (lo < 0 ∨ A < lo)) ∧ wx = Wq)
                                case first =>
                                  by_cases w1 : lo < 0
                                  · go_wp2
                                    go_meet
                                    case rel => exact ⟨by rw [decide_eq_true (Or.inl w1)], rfl⟩
                                  · by_cases w2 : A < lo
                                    · go_wp2
                                      go_meet
                                      case rel => exact ⟨by rw [decide_eq_true (Or.inr w2)], rfl⟩
                                    · go_wp2
                                      go_meet
                                      case rel => first | exact ⟨by rw [decide_eq_false (by omega)], rfl⟩ | exact ⟨rfl, rfl⟩ | exact ⟨trivial, rfl⟩ | exact ⟨trivial, trivial⟩ | exact rfl | trivial
                                case rest =>
                                  obtain ⟨rfl, hWq⟩ := hcut
                                  subst hWq
                                  generalize wc = Wq at *
                                  have HqL1 := Lib.hid (fun h : lo < 0 ∨ A < lo => (HZ1.out.set r' A).cg fun i _ => HqL.out.1 h i)
                                  have HqL0 := Lib.hid (fun h : ¬ (lo < 0 ∨ A < lo) => HZ1.out.cg fun i _ => HqL.out.2 h i)
                                  have HZ2s := Lib.hid (HZ2.out.other HNe.out.symm r' (.int .i64 A))
                                  go_upto_if 153 with (fail)
                                  go_cut [20] (fun a wx => a = .int .i64 A ∧ Hid (Below V.heap.size V wx) ∧ Hid (BxI wx X' N (fun i => loN (U i))) ∧ Hid (BxI wx Y' N (fun i => hiN (T2 i))))
                                  case first =>
                                    by_cases w1 : lo < 0 ∨ A < lo
                                    · have HA1 := Lib.hid (HqL1.out w1)
                                      have w1d : decide (lo < 0 ∨ A < lo) = true := decide_eq_true w1
                                      generalize decide (lo < 0 ∨ A < lo) = dd at *
                                      subst w1d
                                      clear HqL HqL1 HqL0 w1
                                      go_wp2
                                      go_meet
                                      case rel => exact ⟨rfl, Lib.hid (hBz.out.setCell (by exact HXV.out) _), HA1, HZ2s⟩
                                    · have HA1 := Lib.hid (HqL0.out w1)
                                      have w1d : decide (lo < 0 ∨ A < lo) = false := decide_eq_false w1
                                      generalize decide (lo < 0 ∨ A < lo) = dd at *
                                      subst w1d
                                      clear HqL HqL1 HqL0 w1
                                      go_wp2
                                      go_meet
                                      case rel => exact ⟨rfl, hBz, HA1, HZ2⟩
                                  case rest =>
                                    obtain ⟨rfl, hBv, HY1, HY2⟩ := hcut
                                    clear HqL HqL1 HqL0 HZ2s HZ1 HZ2 hBz l1 fa
                                    generalize wc = Ws at *
                                    have l2 := HY2.out.cell hr'N
                                    have fb := HY2.out.free r'
                                    (try dsimp only at l2)
                                    generalize hiN (T2 r') = hi at *
                                    by_cases w3 : hi < Bv
                                    · have HHn := Lib.hid ((HY2.out.set r' Bv).cg fun i _ => HqH.out.1 w3 i)
                                      clear HqH
                                      go_wp2
                                      go_roundw
                                      case rel => exact ⟨kk + 1, by omega, by go_num, ⟨_, hBv.out.setCell (by exact HYV.out) _⟩, rfl, U, Lib.hid (HY1.out.other HNe.out r' _), HHn, HRs⟩
                                      case measure => simp [intOf]; omega
                                    · have HHn := Lib.hid (HY2.out.cg fun i _ => HqH.out.2 w3 i)
                                      clear HqH
                                      go_wp2
                                      go_roundw
                                      case rel => exact ⟨kk + 1, by omega, by go_num, ⟨_, hBv.out⟩, rfl, U, HY1, HHn, HRs⟩
                                      case measure => simp [intOf]; omega
                            · obtain rfl : M = kk := by omega
                              have hkM2 : ¬ (M : Int) < (M : Int) := by omega
                              have HRn := Lib.hid (rr_next HR2.out)
                              go_wp2
                              go_roundw
                              case rel => exact ⟨j + 1, by omega, by go_num, x2, rfl, T2, HL2, HH2, HRn⟩
                              case measure => simp [intOf]; omega
                      · obtain rfl : N = j := by omega
                        have hjc : ¬ (N : Int) ≤ c := by omega
                        have HTn : Hid (TwR w x.w s g c X' Y' N (fun i => loN (T' i)) (fun i => hiN (T' i))) := Lib.hid ⟨HL.out, HH.out, HNe.out, by have := HXV.out; omega, by have := HYV.out; omega, obj_on hTV.out.ru x.out, hTV.out.be.trans (x.out.mono hTV.out.be.size)⟩
                        have HSn : Hid (∀ r : Nat, (r : Int) ≤ c → Rep (S1 (winv c r)) (T' r)) := Lib.hid fun r hr => rep_iff (rr_end HNc.out (fun v m h => (hsd.out v m h).1) HR'.out r hr) fun mm => hAM.out _ _
                        go_wp2
                        go_roundw
                        case rel => exact ⟨k + 1, by omega, by go_num, X', Y', rfl, rfl, T', HTn, Lib.hid (by rw [HSS.out]; exact HSn.out)⟩
                        case measure => simp [intOf]; omega
          · have hkn' : k = n := by omega
            clear hkn hk
            as_aux_lemma =>
              obtain rfl : k = n := hkn'
              go_wp2
              have HBe := Lib.hid HR.out.be
              go_loopw [22, 23, 24] (fun u v i W => ∃ j : Nat, j ≤ N ∧ i = .int .i64 j ∧ W = wr ∧ ∃ U, u = .int .i64 (loN U) ∧ v = .int .i64 (hiN U) ∧ Hid (Rep (UpR s g c f k j) U)) (fun _ _ i _ => N - (intOf i).toNat)
              case atStart => exact ⟨0, by omega, rfl, rfl, none, rfl, rfl, Lib.hid fun m h => by obtain ⟨v, h1, _⟩ := h; omega⟩
              case round =>
                obtain ⟨j, hj, rfl, hW, U, rfl, rfl, HU⟩ := hrel
                subst hW
                obtain ⟨r0, r1, r2⟩ := HR.out.rule
                by_cases hjN : j < N
                · have hjc : (j : Int) ≤ c := by omega
                  have hjN2 : (j : Int) < (N : Int) := by omega
                  have hn := upr_succ HU.out (HS.out j hjc)
                  have lX := HR.out.a.cell hjN
                  have lY := HR.out.b.cell hjN
                  (try dsimp only at lX)
                  (try dsimp only at lY)
                  have hS1 := HS.out j hjc
                  rcases hT : T j with _ | ⟨p1, p2⟩
                  · rw [hT, or_none] at hn
                    rw [hT] at lY
                    change _ = some (Value.int .i64 (-1)) at lY
                    have HN := Lib.hid hn
                    clear hT lX hn hS1 HU
                    go_wp2
                    go_roundw
                    case rel => exact ⟨j + 1, by omega, by go_num, trivial, U, rfl, rfl, HN⟩
                    case measure => simp [intOf]; omega
                  · rw [hT] at hn lX lY hS1
                    change _ = some (Value.int .i64 p1) at lX
                    change _ = some (Value.int .i64 p2) at lY
                    have hp1 := (ss_bd hcb hS1.1).2
                    have hp2 := (ss_bd hcb hS1.2.1).2
                    (try dsimp only at hp1)
                    (try dsimp only at hp2)
                    have hpn : ¬ p2 < 0 := by omega
                    have E1 := Lib.hid (lo_or (t := U) (a := p1) (b := p2) (upr_pos hcb HU.out))
                    have E2 := Lib.hid (hi_or (t := U) (a := p1) (b := p2) hp2.1)
                    have HN := Lib.hid hn
                    clear hT hn hS1 HU hp1 hp2
                    by_cases w3 : hiN U < p2
                    · by_cases w1 : loN U < 0
                      · go_wp2
                        go_roundw
                        case rel => exact ⟨j + 1, by omega, by go_num, trivial, _, by rw [E1.out, if_pos (.inl w1)], by rw [E2.out, if_pos w3], HN⟩
                        case measure => simp [intOf]; omega
                      · by_cases w2 : p1 < loN U
                        · go_wp2
                          go_roundw
                          case rel => exact ⟨j + 1, by omega, by go_num, trivial, _, by rw [E1.out, if_pos (.inr w2)], by rw [E2.out, if_pos w3], HN⟩
                          case measure => simp [intOf]; omega
                        · go_wp2
                          go_roundw
                          case rel => exact ⟨j + 1, by omega, by go_num, trivial, _, by rw [E1.out, if_neg (fun h => h.elim w1 w2)], by rw [E2.out, if_pos w3], HN⟩
                          case measure => simp [intOf]; omega
                    · by_cases w1 : loN U < 0
                      · go_wp2
                        go_roundw
                        case rel => exact ⟨j + 1, by omega, by go_num, trivial, _, by rw [E1.out, if_pos (.inl w1)], by rw [E2.out, if_neg w3], HN⟩
                        case measure => simp [intOf]; omega
                      · by_cases w2 : p1 < loN U
                        · go_wp2
                          go_roundw
                          case rel => exact ⟨j + 1, by omega, by go_num, trivial, _, by rw [E1.out, if_pos (.inr w2)], by rw [E2.out, if_neg w3], HN⟩
                          case measure => simp [intOf]; omega
                        · go_wp2
                          go_roundw
                          case rel => exact ⟨j + 1, by omega, by go_num, trivial, _, by rw [E1.out, if_neg (fun h => h.elim w1 w2)], by rw [E2.out, if_neg w3], HN⟩
                          case measure => simp [intOf]; omega
                · obtain rfl : N = j := by omega
                  have hjc : ¬ (N : Int) ≤ c := by omega
                  have hAl := upr_all hcb HNc.out HU.out
                  obtain ⟨p1, p2, rfl⟩ := all_some hGG.out hAl
                  have HAl := Lib.hid hAl
                  clear hAl HU
                  go_wp2
                  go_returns
                  exact ⟨⟨p1, p2, rfl, HAl.out⟩, HBe.out⟩
end Go.Proofs.YtfmoedlnjlkiiaaDoor
