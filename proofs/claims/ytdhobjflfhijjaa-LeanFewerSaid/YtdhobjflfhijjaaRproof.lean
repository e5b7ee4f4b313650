/- The first proof, as the reference finds it. -/
import Derived.Test.YtdhobjflfhijjaaProvb
import Derived.Test.YtdhobjflfhijjaaRnear
namespace Go.Proofs.Ytdhobjflfhijjaa
open Go.RowKit
attribute [local go_sem] After.cell After.frozen After.lt After.le After.ne After.ne' After.set_eq After.size_set After.lt_add

/-- The first triple of which a test is true. -/
def fstT (B : Tri → Bool) (n : Nat) : Option Tri := (trips n).find? B
def trV (o : Option Tri) : Value := match o with | some t => triV t | none => .agg #[.int .i64 0, .int .i64 0, .int .i64 0]
def trE (o : Option Tri) : Int := match o with | some _ => 0 | none => 8
theorem find_pre {B : Tri → Bool} {pre L : List Tri} {t : Tri} (h0 : ∀ s ∈ pre, B s = false) (h1 : B t = true) (hp : pre ++ [t] <+: L) : L.find? B = some t := by
  obtain ⟨rest, rfl⟩ := hp
  rw [List.append_assoc, List.find?_append, List.find?_eq_none.2 (by simpa using h0)]
  simp [h1]
theorem fstT_some {B : Tri → Bool} {n i j k : Nat} (hi : i + 1 ≤ j) (hj : j + 1 ≤ k) (hk : k < n) (h0 : ∀ s ∈ tripsTo n i j k, B s = false) (h1 : B (i, j, k) = true) : fstT B n = some (i, j, k) :=
  find_pre h0 h1 (by rw [tripsTo_next hj]; exact tripsTo_pre hi (by omega) (by omega))
theorem fstT_none {B : Tri → Bool} {n : Nat} (h0 : ∀ s ∈ tripsI n n, B s = false) : fstT B n = none := by
  unfold fstT
  exact List.find?_eq_none.2 (by intro x hx; simp [h0 x hx])
theorem fstT_few {B : Tri → Bool} {n : Nat} (h : n < 3) : fstT B n = none := by
  refine fstT_none fun s hs => ?_
  have := trips_mem (n := n) hs
  omega

set_option maxRecDepth 100000 in
set_option maxHeartbeats 400000 in
theorem rproof_bad (v : Value) (w : World) (hv : RptsSay w v false) :
    Calls Try.prog 46 #[v] w fun e w' => e = .returned (.tuple #[.agg #[.int .i64 0, .int .i64 0, .int .i64 0], .int .i64 1]) ∧ Below w.heap.size w w' := by
  have HV : Hid (∀ W, Below w.heap.size w W → _) := hv
  clear hv
  go_enter Try.func46, Try.ntmps46
  (go_wp2_with fail); refine calls_after (HV.out _ (by (repeat' (first | (with_reducible exact Below.refl _ _) | (with_reducible assumption) | (with_reducible refine Below.alloc ?_ ?_ _) | (with_reducible refine Below.drew ?_) | (with_reducible refine below_drewN ?_ _) | (with_reducible refine Below.setCell ?_ ?_ _) | (with_reducible refine below_after ?_ ?_ _) | (with_reducible refine below_set ?_) | (with_reducible refine After.size_le _ ?_) | (with_reducible refine size_alloc_le ?_) | (with_reducible refine size_set_le ?_) | (with_reducible refine size_drewN_le ?_) | go_size)))) ?_; intro x1; have hz_x1 := x1.out.size; (try simp only [World.size_alloc] at hz_x1); (try simp only [World.size_setCell] at hz_x1); have k0_x1 : w.heap.size < x1.w.heap.size := (by omega); have j0_x1 : w.heap.size < x1.w.heap.size + 1 := (by omega)
  go_wp2
  have q (o : Nat) (v : Value) (hv : (w.alloc (.cells #[.int .i64 0, .int .i64 0, .int .i64 0] 57)).cell? ⟨w.heap.size, o, none⟩ = some v) : x1.w.cell? ⟨w.heap.size, o, none⟩ = some v := (x1.cell _ (by simp)).trans hv
  have r0 := q 0 (.int .i64 0) (by simp [go_sem])
  have r1 := q 1 (.int .i64 0) (by simp [go_sem])
  have r2 := q 2 (.int .i64 0) (by simp [go_sem])
  obtain ⟨w0, w1, w2⟩ := x1.set3 (.int .i64 0) (.int .i64 0) (.int .i64 0) r0 r1 r2
  refine bodyPost_ret (v := .tuple #[.agg #[.int .i64 0, .int .i64 0, .int .i64 0], .int .i64 1]) (by simp [results, Try.results46, go_sem, w0, w1, w2]) rfl ⟨rfl, ?_⟩
  (repeat' (first | (with_reducible exact Below.refl _ _) | (with_reducible assumption) | (with_reducible refine Below.alloc ?_ ?_ _) | (with_reducible refine Below.drew ?_) | (with_reducible refine below_drewN ?_ _) | (with_reducible refine Below.setCell ?_ ?_ _) | (with_reducible refine below_after ?_ ?_ _) | (with_reducible refine below_set ?_) | (with_reducible refine After.size_le _ ?_) | (with_reducible refine size_alloc_le ?_) | (with_reducible refine size_set_le ?_) | (with_reducible refine size_drewN_le ?_) | go_size))
set_option maxRecDepth 100000 in
set_option maxHeartbeats 400000 in
theorem rproof_few (ad : Option Addr) (n cap : Nat) (w : World) (hv : RptsSay w (.slice ad n cap) true) (hn : n < 3) :
    Calls Try.prog 46 #[.slice ad n cap] w fun e w' => e = .returned (.tuple #[.agg #[.int .i64 0, .int .i64 0, .int .i64 0], .int .i64 8]) ∧ Below w.heap.size w w' := by
  have HV : Hid (∀ W, Below w.heap.size w W → _) := hv
  clear hv
  go_enter Try.func46, Try.ntmps46
  (go_wp2_with fail); refine calls_after (HV.out _ (by (repeat' (first | (with_reducible exact Below.refl _ _) | (with_reducible assumption) | (with_reducible refine Below.alloc ?_ ?_ _) | (with_reducible refine Below.drew ?_) | (with_reducible refine below_drewN ?_ _) | (with_reducible refine Below.setCell ?_ ?_ _) | (with_reducible refine below_after ?_ ?_ _) | (with_reducible refine below_set ?_) | (with_reducible refine After.size_le _ ?_) | (with_reducible refine size_alloc_le ?_) | (with_reducible refine size_set_le ?_) | (with_reducible refine size_drewN_le ?_) | go_size)))) ?_; intro x1; have hz_x1 := x1.out.size; (try simp only [World.size_alloc] at hz_x1); (try simp only [World.size_setCell] at hz_x1); have k0_x1 : w.heap.size < x1.w.heap.size := (by omega); have j0_x1 : w.heap.size < x1.w.heap.size + 1 := (by omega)
  go_wp2
  have q (o : Nat) (v : Value) (hv : (w.alloc (.cells #[.int .i64 0, .int .i64 0, .int .i64 0] 57)).cell? ⟨w.heap.size, o, none⟩ = some v) : x1.w.cell? ⟨w.heap.size, o, none⟩ = some v := (x1.cell _ (by simp)).trans hv
  have r0 := q 0 (.int .i64 0) (by simp [go_sem])
  have r1 := q 1 (.int .i64 0) (by simp [go_sem])
  have r2 := q 2 (.int .i64 0) (by simp [go_sem])
  obtain ⟨w0, w1, w2⟩ := x1.set3 (.int .i64 0) (.int .i64 0) (.int .i64 0) r0 r1 r2
  refine bodyPost_ret (v := .tuple #[.agg #[.int .i64 0, .int .i64 0, .int .i64 0], .int .i64 8]) (by simp [results, Try.results46, go_sem, w0, w1, w2]) rfl ⟨rfl, ?_⟩
  (repeat' (first | (with_reducible exact Below.refl _ _) | (with_reducible assumption) | (with_reducible refine Below.alloc ?_ ?_ _) | (with_reducible refine Below.drew ?_) | (with_reducible refine below_drewN ?_ _) | (with_reducible refine Below.setCell ?_ ?_ _) | (with_reducible refine below_after ?_ ?_ _) | (with_reducible refine below_set ?_) | (with_reducible refine After.size_le _ ?_) | (with_reducible refine size_alloc_le ?_) | (with_reducible refine size_set_le ?_) | (with_reducible refine size_drewN_le ?_) | go_size))

set_option maxRecDepth 1000000 in
set_option maxHeartbeats 2000000 in
theorem rproof_ok (b off cap : Nat) (ps : List (Int × Int)) (w : World) (hb : b < w.heap.size)
    (hc : ∀ i, i < ps.length → w.cell? ⟨b, off + i * 2, none⟩ = some (.int .i64 (ps.getD i (0, 0)).1) ∧ w.cell? ⟨b, off + i * 2 + 1, none⟩ = some (.int .i64 (ps.getD i (0, 0)).2))
    (hG : GoodPts ps) (h3 : 3 ≤ ps.length) :
    Calls Try.prog 46 #[.slice (some ⟨b, off, none⟩) ps.length cap] w fun e w' => e = .returned (.tuple #[trV (fstT (prfB (neL ps) ps (woF (neL ps) ps)) ps.length), .int .i64 (trE (fstT (prfB (neL ps) ps (woF (neL ps) ps)) ps.length))]) ∧ Below w.heap.size w w' := by
  have hl40 := hG.2.1
  have hA := goodPts_at hG
  have hL := (neL_good hG).1
  have HV : Hid (∀ W, Below w.heap.size w W → _) := fun W hW => rvalidPoints_t b off cap ps W (Nat.lt_of_lt_of_le hb hW.size) (by omega) (cells_on hb hc hW) hG
  have HN : Hid (∀ W, Below w.heap.size w W → _) := fun W hW => rnear_ok b off cap ps W (Nat.lt_of_lt_of_le hb hW.size) (cells_on hb hc hW) hG
  have HP : Hid (∀ t : Tri, t.1 < t.2.1 → t.2.1 < t.2.2 → t.2.2 < ps.length → ∀ W, Below w.heap.size w W → _) := fun t h1 h2 h3 W hW => rproves_any b off cap (neL ps) ps t W (Nat.lt_of_lt_of_le hb hW.size) (by omega) (cells_on hb hc hW) hL hA (by omega) (by omega) h3
  unfold neL at HP ⊢
  clear hA hL hG hc
  generalize prfB _ ps _ = B at *
  unfold triV at HP
  dsimp only at *
  generalize neA ps = A at *
  generalize neB ps = Bn at *
  generalize neD ps = D at *
  generalize hX : fstT B ps.length = o
  have HX := Lib.hid hX
  clear hX
  generalize hn : ps.length = n at *
  clear hn
  go_enter Try.func46, Try.ntmps46
  (go_wp2_with fail); refine calls_after (HV.out _ (by (repeat' (first | (with_reducible exact Below.refl _ _) | (with_reducible assumption) | (with_reducible refine Below.alloc ?_ ?_ _) | (with_reducible refine Below.drew ?_) | (with_reducible refine below_drewN ?_ _) | (with_reducible refine Below.setCell ?_ ?_ _) | (with_reducible refine below_after ?_ ?_ _) | (with_reducible refine below_set ?_) | (with_reducible refine After.size_le _ ?_) | (with_reducible refine size_alloc_le ?_) | (with_reducible refine size_set_le ?_) | (with_reducible refine size_drewN_le ?_) | go_size)))) ?_; intro x1; have hz_x1 := x1.out.size; (try simp only [World.size_alloc] at hz_x1); (try simp only [World.size_setCell] at hz_x1); have k0_x1 : w.heap.size < x1.w.heap.size := (by omega); have j0_x1 : w.heap.size < x1.w.heap.size + 1 := (by omega)
  (go_wp2_with fail); refine calls_after2 (HN.out _ (by (repeat' (first | (with_reducible exact Below.refl _ _) | (with_reducible assumption) | (with_reducible refine Below.alloc ?_ ?_ _) | (with_reducible refine Below.drew ?_) | (with_reducible refine below_drewN ?_ _) | (with_reducible refine Below.setCell ?_ ?_ _) | (with_reducible refine below_after ?_ ?_ _) | (with_reducible refine below_set ?_) | (with_reducible refine After.size_le _ ?_) | (with_reducible refine size_alloc_le ?_) | (with_reducible refine size_set_le ?_) | (with_reducible refine size_drewN_le ?_) | go_size)))) ?_; intro x2; have hz_x2 := x2.out.size; (try simp only [World.size_alloc] at hz_x2); (try simp only [World.size_setCell] at hz_x2); have k0_x2 : w.heap.size < x2.w.heap.size := (by omega); have j0_x2 : w.heap.size < x2.w.heap.size + 1 := (by omega)
  clear HV HN
  go_wp2
  obtain ⟨W1, hW1⟩ : ∃ W1, x2.w.alloc (.cells #[.int .i64 A, .int .i64 Bn, .int .i64 D] 35) = W1 := ⟨_, rfl⟩
  have hB1 : Below w.heap.size w W1 := by rw [← hW1]; (repeat' (first | (with_reducible exact Below.refl _ _) | (with_reducible assumption) | (with_reducible refine Below.alloc ?_ ?_ _) | (with_reducible refine Below.drew ?_) | (with_reducible refine below_drewN ?_ _) | (with_reducible refine Below.setCell ?_ ?_ _) | (with_reducible refine below_after ?_ ?_ _) | (with_reducible refine below_set ?_) | (with_reducible refine After.size_le _ ?_) | (with_reducible refine size_alloc_le ?_) | (with_reducible refine size_set_le ?_) | (with_reducible refine size_drewN_le ?_) | go_size))
  have hS : x2.w.heap.size < W1.heap.size := by rw [← hW1]; simp
  have s0 : W1.cell? ⟨x2.w.heap.size, 0, none⟩ = some (.int .i64 A) := by rw [← hW1]; simp [go_sem]
  have s1 : W1.cell? ⟨x2.w.heap.size, 1, none⟩ = some (.int .i64 Bn) := by rw [← hW1]; simp [go_sem]
  have s2 : W1.cell? ⟨x2.w.heap.size, 2, none⟩ = some (.int .i64 D) := by rw [← hW1]; simp [go_sem]
  have hR : w.heap.size < W1.heap.size := by omega
  have q (o : Nat) (v : Value) (hv : (w.alloc (.cells #[.int .i64 0, .int .i64 0, .int .i64 0] 57)).cell? ⟨w.heap.size, o, none⟩ = some v) : W1.cell? ⟨w.heap.size, o, none⟩ = some v := by
    rw [← hW1]; exact keep_alloc ((x2.cell _ (by simp)).trans hv)
  have r0 := q 0 (.int .i64 0) (by simp [go_sem])
  have r1 := q 1 (.int .i64 0) (by simp [go_sem])
  have r2 := q 2 (.int .i64 0) (by simp [go_sem])
  have fz : ∀ o, W1.frozen? ⟨w.heap.size, o, none⟩ = false := fun o => by
    rw [← hW1, World.frozen?_alloc_past _ _ _ (by omega), x2.frozen _ (by simp)]
    simp [go_sem]
  rw [hW1]
  clear q hW1
  generalize x2.w.heap.size = S at *
  clear x2
  go_loopw [5] (fun i wr => ∃ a : Nat, a ≤ n ∧ i = .int .i64 a ∧ (∀ s ∈ tripsI n a, B s = false) ∧ ∃ x : After W1, wr = x.w) (fun i _ => n - (intOf i).toNat)
  case atStart => exact ⟨0, by omega, rfl, by simp [tripsI], ⟨W1, Below.refl _ _⟩, rfl⟩
  case round =>
    obtain ⟨a, ha, rfl, ho, x, rfl⟩ := hrel
    have HO := Lib.hid ho
    clear ho
    by_cases hlt : a < n
    · go_wp2
      go_loopw [6] (fun j wr => ∃ c : Nat, a + 1 ≤ c ∧ c ≤ n ∧ j = .int .i64 c ∧ (∀ s ∈ tripsI n a ++ tripsJ n a c, B s = false) ∧ ∃ x : After W1, wr = x.w) (fun j _ => n - (intOf j).toNat)
      case atStart => exact ⟨a + 1, by omega, by omega, by go_num, by rw [tripsJ_nil, List.append_nil]; exact HO.out, x, rfl⟩
      case round =>
        obtain ⟨c, hc0, hc, rfl, ho2, y, rfl⟩ := hrel
        have HO2 := Lib.hid ho2
        clear ho2
        by_cases hltc : c < n
        · go_wp2
          go_loopw [7] (fun k wr => ∃ d : Nat, c + 1 ≤ d ∧ d ≤ n ∧ k = .int .i64 d ∧ (∀ s ∈ tripsTo n a c d, B s = false) ∧ ∃ x : After W1, wr = x.w) (fun k _ => n - (intOf k).toNat)
          case atStart => exact ⟨c + 1, by omega, by omega, by go_num, by unfold tripsTo; rw [tripsK_nil, List.append_nil]; exact HO2.out, y, rfl⟩
          case round =>
            obtain ⟨d, hd0, hd, rfl, ho3, z, rfl⟩ := hrel
            have HO3 := Lib.hid ho3
            clear ho3
            by_cases hltd : d < n
            · have HQ := Lib.hid (HP.out (a, c, d) (by show a < c; omega) (by show c < d; omega) hltd)
              dsimp only at HQ
              have kS := z.size_lt hS
              have kR := z.size_lt hR
              have kS1 : S < z.w.heap.size + 1 := by omega
              have kR1 : w.heap.size < z.w.heap.size + 1 := by omega
              cases hBt : B (a, c, d)
              · rw [hBt] at HQ
                have HF := Lib.hid hBt
                clear hBt
                (go_wp2_with fail); refine calls_after (HQ.out _ (by (repeat' (first | (with_reducible exact Below.refl _ _) | (with_reducible assumption) | (with_reducible refine Below.alloc ?_ ?_ _) | (with_reducible refine Below.drew ?_) | (with_reducible refine below_drewN ?_ _) | (with_reducible refine Below.setCell ?_ ?_ _) | (with_reducible refine below_after ?_ ?_ _) | (with_reducible refine below_set ?_) | (with_reducible refine After.size_le _ ?_) | (with_reducible refine size_alloc_le ?_) | (with_reducible refine size_set_le ?_) | (with_reducible refine size_drewN_le ?_) | go_size)))) ?_; intro u
                go_wp2
                go_roundw
                case rel => exact ⟨d + 1, by omega, by omega, by go_num, by
                  rw [← tripsTo_next hd0]
                  intro s hs
                  rcases List.mem_append.1 hs with h | h
                  · exact HO3.out s h
                  · rw [List.mem_singleton.1 h]; exact HF.out, ⟨_, below_after (z.out.alloc z.out.size _) (by simp; exact Nat.le_succ_of_le z.out.size) u⟩, rfl⟩
                case measure => simp [intOf]; omega
              · obtain rfl : o = some (a, c, d) := HX.out.symm.trans (fstT_some hc0 hd0 hltd HO3.out hBt)
                rw [hBt] at HQ
                clear hBt HX
                (go_wp2_with fail); refine calls_after (HQ.out _ (by (repeat' (first | (with_reducible exact Below.refl _ _) | (with_reducible assumption) | (with_reducible refine Below.alloc ?_ ?_ _) | (with_reducible refine Below.drew ?_) | (with_reducible refine below_drewN ?_ _) | (with_reducible refine Below.setCell ?_ ?_ _) | (with_reducible refine below_after ?_ ?_ _) | (with_reducible refine below_set ?_) | (with_reducible refine After.size_le _ ?_) | (with_reducible refine size_alloc_le ?_) | (with_reducible refine size_set_le ?_) | (with_reducible refine size_drewN_le ?_) | go_size)))) ?_; intro u; have hz_u := u.out.size; (try simp only [World.size_alloc] at hz_u); (try simp only [World.size_setCell] at hz_u); have k0_u : S < u.w.heap.size := (by omega); have j0_u : S < u.w.heap.size + 1 := (by omega); have k1_u : w.heap.size < u.w.heap.size := (by omega); have j1_u : w.heap.size < u.w.heap.size + 1 := (by omega); have k2_u : z.w.heap.size < u.w.heap.size := (by omega); have j2_u : z.w.heap.size < u.w.heap.size + 1 := (by omega)
                go_wp2
                have q' (o : Nat) (v : Value) (hv : W1.cell? ⟨w.heap.size, o, none⟩ = some v) : u.w.cell? ⟨w.heap.size, o, none⟩ = some v := (u.cell _ (by simpa using kR1)).trans (keep_alloc ((z.cell _ hR).trans hv))
                obtain ⟨w0, w1, w2⟩ := u.set3 (.int .i64 a) (.int .i64 c) (.int .i64 d) (q' 0 _ r0) (q' 1 _ r1) (q' 2 _ r2)
                refine bodyPost_ret (v := .tuple #[triV (a, c, d), .int .i64 0]) (by simp [results, Try.results46, go_sem, triV, w0, w1, w2]) rfl ⟨rfl, ?_⟩
                (repeat' (first | (with_reducible exact Below.refl _ _) | (with_reducible assumption) | (with_reducible refine Below.alloc ?_ ?_ _) | (with_reducible refine Below.drew ?_) | (with_reducible refine below_drewN ?_ _) | (with_reducible refine Below.setCell ?_ ?_ _) | (with_reducible refine below_after ?_ ?_ _) | (with_reducible refine below_set ?_) | (with_reducible refine After.size_le _ ?_) | (with_reducible refine size_alloc_le ?_) | (with_reducible refine size_set_le ?_) | (with_reducible refine size_drewN_le ?_) | go_size))
            · obtain rfl : d = n := by omega
              go_wp2
              go_roundw
              case rel => exact ⟨c + 1, by omega, by omega, by go_num, by rw [← tripsTo_j hc0]; exact HO3.out, z, rfl⟩
              case measure => simp [intOf]; omega
        · obtain rfl : c = n := by omega
          go_wp2
          go_roundw
          case rel => exact ⟨a + 1, by omega, by go_num, by rw [tripsI_succ]; exact HO2.out, y, rfl⟩
          case measure => simp [intOf]; omega
    · obtain rfl : a = n := by omega
      obtain rfl : o = none := HX.out.symm.trans (fstT_none HO.out)
      clear HX
      have kR := x.size_lt hR
      go_wp2
      obtain ⟨w0, w1, w2⟩ := x.set3 (.int .i64 0) (.int .i64 0) (.int .i64 0) ((x.cell _ hR).trans r0) ((x.cell _ hR).trans r1) ((x.cell _ hR).trans r2)
      refine bodyPost_ret (v := .tuple #[.agg #[.int .i64 0, .int .i64 0, .int .i64 0], .int .i64 8]) (by simp [results, Try.results46, go_sem, w0, w1, w2]) rfl ⟨rfl, ?_⟩
      (repeat' (first | (with_reducible exact Below.refl _ _) | (with_reducible assumption) | (with_reducible refine Below.alloc ?_ ?_ _) | (with_reducible refine Below.drew ?_) | (with_reducible refine below_drewN ?_ _) | (with_reducible refine Below.setCell ?_ ?_ _) | (with_reducible refine below_after ?_ ?_ _) | (with_reducible refine below_set ?_) | (with_reducible refine After.size_le _ ?_) | (with_reducible refine size_alloc_le ?_) | (with_reducible refine size_set_le ?_) | (with_reducible refine size_drewN_le ?_) | go_size))
end Go.Proofs.Ytdhobjflfhijjaa
