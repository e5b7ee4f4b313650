/- TopWindows: the mathematics, awake8, the law's walk. -/
import Derived.Test.YtlnlgboeohfpdaaTwTpw
namespace Go.Proofs.Ytlnlgboeohfpdaa.Tw
open Go.Proofs.Ytlnlgboeohfpdaa
open Go.RowKit
attribute [local go_sem] After.cell After.frozen After.lt After.le After.ne After.ne' After.set_eq After.size_set After.lt_add

theorem gW_on {s g c : Int} {f : Nat → Int} {i : Nat} (h : gW s g c f i = true) (h0 : 0 ≤ f (i + 1)) (h1 : f (i + 1) < s) : gW s g c f (i + 1) = true := by
  unfold gW at h ⊢
  simp only [Bool.and_eq_true, decide_eq_true_eq] at h ⊢
  refine ⟨h.2, ?_⟩
  show nxW s g c (wt s g c f (i + 1)) (f (i + 1)) = 0
  unfold nxW
  rw [if_pos h.2, if_neg (by omega)]
theorem wt_less {s g c : Int} {f : Nat → Int} {t : Nat} (hc : 1 ≤ c) (hg : g ≤ s) : ∀ j : Nat, (∀ i, t ≤ i → i < t + j → 0 ≤ f i ∧ f i < g) → wt s g c f (t + j) = 0 ∨ wt s g c f (t + j) ≤ c - j
  | 0, _ => .inr (by have := wt_bd (s := s) (g := g) hc f t; simpa using this.2)
  | j + 1, h => by
    have ih := wt_less (s := s) (g := g) (f := f) (t := t) hc hg j fun i a b => h i a (by omega)
    have hj := h (t + j) (by omega) (by omega)
    have hb := wt_bd (s := s) (g := g) hc f (t + j)
    have e : wt s g c f (t + (j + 1)) = nxW s g c (wt s g c f (t + j)) (f (t + j)) := rfl
    rw [e]
    unfold nxW
    by_cases h0 : wt s g c f (t + j) = 0
    · rw [if_pos h0, if_neg (by omega)]; exact .inl rfl
    · rw [if_neg h0, if_neg (by omega)]; right; omega
theorem gW_behind {s g c : Int} {f : Nat → Int} {t i : Nat} (hc : 1 ≤ c) (hg : g ≤ s) (h : ∀ j, t ≤ j → j < i + 1 → 0 ≤ f j ∧ f j < g) (hi : (t : Int) + c ≤ i) : gW s g c f i = true := by
  have h1 := wt_less (s := s) (g := g) (f := f) (t := t) hc hg (i - t) fun j a b => h j a (by omega)
  have hb := wt_bd (s := s) (g := g) hc f i
  rw [show t + (i - t) = i by omega] at h1
  have h0 : wt s g c f i = 0 := by omega
  have hi' := h i (by omega) (by omega)
  unfold gW
  simp only [Bool.and_eq_true, decide_eq_true_eq]
  refine ⟨h0, ?_⟩
  show nxW s g c (wt s g c f i) (f i) = 0
  unfold nxW
  rw [if_pos h0, if_neg (by omega)]
theorem fl_none {p : Nat → Bool} {n : Nat} (h : spS (fl p n) = []) : ∀ i, i < n → p i = false := by
  have h2 : (fl p n).length = 0 := by
    rcases nil_or_snoc (fl p n) with h1 | ⟨l, x, h1⟩
    · rw [h1]; rfl
    · rw [h1, spS_snoc] at h
      unfold addS at h
      split at h
      · split at h <;> simp at h
      · simp at h
  exact fl_nil h2
theorem iat_lit {W : World} {b n : Nat} {f : Nat → Int} (hb : b < W.heap.size) (h : ∀ k, k < n → W.cell? ⟨b, k, none⟩ = some (.int .i64 (f k))) : IAt W (some ⟨b, 0, none⟩) n f := fun k hk => ⟨b, 0, rfl, hb, by rw [Nat.zero_add]; exact h k hk⟩
theorem aw_b : goB 9 5 1 1 (fun _ => 3) 0 = true := by decide +kernel
theorem aw_e : goE 9 5 1 1 (fun _ => 3) 0 = 0 := by decide +kernel
set_option maxRecDepth 100000 in
set_option maxHeartbeats 1000000 in
theorem awake8_any (w : World) :
    Calls Try.prog 7 #[] w fun e w' => e = .returned (.bool true) ∧ Below w.heap.size w w' := by
  have HG := Lib.hid (fun (W : World) (h : IAt W (some ⟨w.heap.size, 0, none⟩) 1 (fun _ => 3)) => goes_say 9 5 1 (some ⟨w.heap.size, 0, none⟩) 1 1 (fun _ => 3) 0 W h)
  rw [aw_b, aw_e] at HG
  go_enter Try.func7, Try.ntmps7
  go_wp2_with fail
  refine calls_after (HG.out _ (iat_lit (by simp) (fun k hk => by obtain rfl : k = 0 := (by omega); simp [go_sem]))) ?_
  intro x1
  go_wp2
  go_ret
  exact ⟨rfl, by (repeat' (first | (with_reducible exact Below.refl _ _) | (with_reducible assumption) | (with_reducible refine Below.alloc ?_ ?_ _) | (with_reducible refine Below.drew ?_) | (with_reducible refine below_drewN ?_ _) | (with_reducible refine Below.setCell ?_ ?_ _) | (with_reducible refine below_after ?_ ?_ _) | (with_reducible refine below_set ?_) | (with_reducible refine After.size_le _ ?_) | (with_reducible refine size_alloc_le ?_) | (with_reducible refine size_set_le ?_) | (with_reducible refine size_drewN_le ?_) | go_size))⟩
/-- Work went in the minute before, of those from p on. -/
def gsF (s g c : Int) (f : Nat → Int) (p : Nat) : Nat → Bool
  | 0 => false
  | i + 1 => decide (p ≤ i) && gW s g c f i
theorem gsF_start (s g c : Int) (f : Nat → Int) (p : Nat) : gsF s g c f p p = false := by
  cases p with
  | zero => rfl
  | succ i =>
    show (decide (i + 1 ≤ i) && gW s g c f i) = false
    rw [decide_eq_false (by omega)]; rfl
theorem gsF_next {s g c : Int} {f : Nat → Int} {p i : Nat} (h : p ≤ i) : gsF s g c f p (i + 1) = gW s g c f i := by
  show (decide (p ≤ i) && gW s g c f i) = _
  rw [decide_eq_true h]; rfl
theorem gsF_on {s g c : Int} {f : Nat → Int} {p j : Nat} (h : gsF s g c f p j = true) (h0 : 0 ≤ f j) (h1 : f j < s) : gW s g c f j = true := by
  cases j with
  | zero => cases h
  | succ i =>
    unfold gsF at h
    simp only [Bool.and_eq_true] at h
    exact gW_on h.2 h0 h1
set_option maxRecDepth 100000 in
set_option maxHeartbeats 4000000 in
theorem topWindows_any (s g c : Int) (a : Option Addr) (n cap : Nat) (fr to lo hi : Nat → Int) (a' : Option Addr) (m cap' : Nat) (f : Nat → Int) (mark k : Int) (w : World)
    (hA : CAt w a n fr to lo hi) (hG : IAt w a' m f) (hn : n ≤ 9223372036854775807) (hm : m ≤ 9223372036854775807) :
    Calls Try.prog 3 #[.agg #[.int .i64 s, .int .i64 g, .int .i64 c], .slice a n cap, .slice a' m cap', .int .i64 mark, .int .i64 k] w fun e w' => e = .returned (.bool true) ∧ Below w.heap.size w w' := by
  have HAw := Lib.hid awake8_any
  have HRu := Lib.hid (rvalidRule_any s g c)
  obtain ⟨W1, hW1⟩ : ∃ W1, w.alloc (.cells #[.int .i64 s, .int .i64 g, .int .i64 c] 23) = W1 := ⟨_, rfl⟩
  have B1 : Below w.heap.size w W1 := by rw [← hW1]; (repeat' (first | (with_reducible exact Below.refl _ _) | (with_reducible assumption) | (with_reducible refine Below.alloc ?_ ?_ _) | (with_reducible refine Below.drew ?_) | (with_reducible refine below_drewN ?_ _) | (with_reducible refine Below.setCell ?_ ?_ _) | (with_reducible refine below_after ?_ ?_ _) | (with_reducible refine below_set ?_) | (with_reducible refine After.size_le _ ?_) | (with_reducible refine size_alloc_le ?_) | (with_reducible refine size_set_le ?_) | (with_reducible refine size_drewN_le ?_) | go_size))
  have hs1 := B1.size
  have r0 : W1.cell? ⟨w.heap.size, 0, none⟩ = some (.int .i64 s) := by rw [← hW1]; simp [go_sem]
  have r1 : W1.cell? ⟨w.heap.size, 1, none⟩ = some (.int .i64 g) := by rw [← hW1]; simp [go_sem]
  have r2 : W1.cell? ⟨w.heap.size, 2, none⟩ = some (.int .i64 c) := by rw [← hW1]; simp [go_sem]
  have hlt : w.heap.size < W1.heap.size := by rw [← hW1]; simp
  obtain ⟨x0, hx0⟩ : ∃ x0 : After W1, W1 = x0.w := ⟨⟨W1, Below.refl _ _⟩, rfl⟩
  have hz := hW1.trans hx0
  have HGu := Lib.hid (fun W (hW : Below W1.heap.size W1 W) => rvalidGusts_any a' m cap' f W ((hG.on B1).on hW) hm)
  have HCs := Lib.hid (fun W (hW : Below W1.heap.size W1 W) => rvalidCasts_any a n cap fr to lo hi W ((hA.on B1).on hW) hn)
  have PM := Lib.hid (fun W (hW : Below W1.heap.size W1 W) => missing_say a' m cap' f W ((hG.on B1).on hW))
  have PK := Lib.hid (fun W (hW : Below W1.heap.size W1 W) => kept_say a n cap fr to lo hi a' m cap' f W ((hA.on B1).on hW) ((hG.on B1).on hW) hn)
  have PS := Lib.hid (fun W (hW : Below W1.heap.size W1 W) => sure_say a n cap fr to lo hi mark k 0 m W ((hA.on B1).on hW) hn)
  have PG := Lib.hid (fun (i : Int) W (hW : Below W1.heap.size W1 W) => goes_say s g c a' m cap' f i W ((hG.on B1).on hW))
  have hmI : (m : Int) ≤ 9223372036854775807 := by omega
  clear hA hG hW1 hx0
  by_cases h1 : (200 : Int) < (m : Int)
  · have d1 : decide ((200 : Int) < (m : Int)) = true := decide_eq_true h1
    clear h1
    go_enter Try.func3, Try.ntmps3
    go_wp2_with fail
    (repeat (first | (refine calls_after2 (HRu.out _) ?_; intro xr; go_wp2_with fail) | (refine calls_after2 (HGu.out _ (After.out _)) ?_; intro xr; go_wp2_with fail) | (refine calls_after2 (HCs.out _ (After.out _)) ?_; intro xr; go_wp2_with fail)))
    refine calls_after2 (HAw.out _) ?_
    intro xe
    go_wp2
    go_ret
    exact ⟨rfl, B1.trans (xe.out.mono hs1)⟩
  have d1 : decide ((200 : Int) < (m : Int)) = false := decide_eq_false h1
  by_cases h2 : (30 : Int) < (n : Int)
  · have d2 : decide ((30 : Int) < (n : Int)) = true := decide_eq_true h2
    clear h2
    go_enter Try.func3, Try.ntmps3
    go_wp2_with fail
    (repeat (first | (refine calls_after2 (HRu.out _) ?_; intro xr; go_wp2_with fail) | (refine calls_after2 (HGu.out _ (After.out _)) ?_; intro xr; go_wp2_with fail) | (refine calls_after2 (HCs.out _ (After.out _)) ?_; intro xr; go_wp2_with fail)))
    refine calls_after2 (HAw.out _) ?_
    intro xe
    go_wp2
    go_ret
    exact ⟨rfl, B1.trans (xe.out.mono hs1)⟩
  have d2 : decide ((30 : Int) < (n : Int)) = false := decide_eq_false h2
  cases h3 : decide (GoodRu s g c)
  · rw [h3] at HRu
    go_enter Try.func3, Try.ntmps3
    go_wp2_with fail
    (repeat (first | (refine calls_after2 (HRu.out _) ?_; intro xr; go_wp2_with fail) | (refine calls_after2 (HGu.out _ (After.out _)) ?_; intro xr; go_wp2_with fail) | (refine calls_after2 (HCs.out _ (After.out _)) ?_; intro xr; go_wp2_with fail)))
    refine calls_after2 (HAw.out _) ?_
    intro xe
    go_wp2
    go_ret
    exact ⟨rfl, B1.trans (xe.out.mono hs1)⟩
  rw [h3] at HRu
  cases h4 : decide (GoodG m f)
  · rw [h4] at HGu
    go_enter Try.func3, Try.ntmps3
    go_wp2_with fail
    (repeat (first | (refine calls_after2 (HRu.out _) ?_; intro xr; go_wp2_with fail) | (refine calls_after2 (HGu.out _ (After.out _)) ?_; intro xr; go_wp2_with fail) | (refine calls_after2 (HCs.out _ (After.out _)) ?_; intro xr; go_wp2_with fail)))
    refine calls_after2 (HAw.out _) ?_
    intro xe
    go_wp2
    go_ret
    exact ⟨rfl, B1.trans (xe.out.mono hs1)⟩
  rw [h4] at HGu
  cases h5 : decide (GoodCs n fr to lo hi)
  · rw [h5] at HCs
    go_enter Try.func3, Try.ntmps3
    go_wp2_with fail
    (repeat (first | (refine calls_after2 (HRu.out _) ?_; intro xr; go_wp2_with fail) | (refine calls_after2 (HGu.out _ (After.out _)) ?_; intro xr; go_wp2_with fail) | (refine calls_after2 (HCs.out _ (After.out _)) ?_; intro xr; go_wp2_with fail)))
    refine calls_after2 (HAw.out _) ?_
    intro xe
    go_wp2
    go_ret
    exact ⟨rfl, B1.trans (xe.out.mono hs1)⟩
  rw [h5] at HCs
  by_cases h6 : mark < 1
  · have d6 : decide (mark < 1) = true := decide_eq_true h6
    clear h6
    go_enter Try.func3, Try.ntmps3
    go_wp2_with fail
    (repeat (first | (refine calls_after2 (HRu.out _) ?_; intro xr; go_wp2_with fail) | (refine calls_after2 (HGu.out _ (After.out _)) ?_; intro xr; go_wp2_with fail) | (refine calls_after2 (HCs.out _ (After.out _)) ?_; intro xr; go_wp2_with fail)))
    refine calls_after2 (HAw.out _) ?_
    intro xe
    go_wp2
    go_ret
    exact ⟨rfl, B1.trans (xe.out.mono hs1)⟩
  have d6 : decide (mark < 1) = false := decide_eq_false h6
  by_cases h7 : s < mark
  · have d7 : decide (s < mark) = true := decide_eq_true h7
    clear h7
    go_enter Try.func3, Try.ntmps3
    go_wp2_with fail
    (repeat (first | (refine calls_after2 (HRu.out _) ?_; intro xr; go_wp2_with fail) | (refine calls_after2 (HGu.out _ (After.out _)) ?_; intro xr; go_wp2_with fail) | (refine calls_after2 (HCs.out _ (After.out _)) ?_; intro xr; go_wp2_with fail)))
    refine calls_after2 (HAw.out _) ?_
    intro xe
    go_wp2
    go_ret
    exact ⟨rfl, B1.trans (xe.out.mono hs1)⟩
  have d7 : decide (s < mark) = false := decide_eq_false h7
  by_cases h8 : k < 1
  · have d8 : decide (k < 1) = true := decide_eq_true h8
    clear h8
    go_enter Try.func3, Try.ntmps3
    go_wp2_with fail
    (repeat (first | (refine calls_after2 (HRu.out _) ?_; intro xr; go_wp2_with fail) | (refine calls_after2 (HGu.out _ (After.out _)) ?_; intro xr; go_wp2_with fail) | (refine calls_after2 (HCs.out _ (After.out _)) ?_; intro xr; go_wp2_with fail)))
    refine calls_after2 (HAw.out _) ?_
    intro xe
    go_wp2
    go_ret
    exact ⟨rfl, B1.trans (xe.out.mono hs1)⟩
  have d8 : decide (k < 1) = false := decide_eq_false h8
  by_cases h9 : 200 < k
  · have d9 : decide (200 < k) = true := decide_eq_true h9
    clear h9
    go_enter Try.func3, Try.ntmps3
    go_wp2_with fail
    (repeat (first | (refine calls_after2 (HRu.out _) ?_; intro xr; go_wp2_with fail) | (refine calls_after2 (HGu.out _ (After.out _)) ?_; intro xr; go_wp2_with fail) | (refine calls_after2 (HCs.out _ (After.out _)) ?_; intro xr; go_wp2_with fail)))
    refine calls_after2 (HAw.out _) ?_
    intro xe
    go_wp2
    go_ret
    exact ⟨rfl, B1.trans (xe.out.mono hs1)⟩
  have d9 : decide (200 < k) = false := decide_eq_false h9
  have hRu := of_decide_eq_true h3
  have hGG := of_decide_eq_true h4
  have hCC := of_decide_eq_true h5
  have eM : msE m f = 0 := by unfold msE; rw [h4]; rfl
  have eL : msL m f = spS (fl (mW f) m) := by unfold msL; rw [h4]; rfl
  have eK : kpE n fr to lo hi m f = 0 := by unfold kpE; rw [h5, h4]; rfl
  rw [eM, eL] at PM
  rw [eK] at PK
  have hb1 : (spS (fl (mW f) m)).length ≤ 2000 := Nat.le_trans (spS_len _) (Nat.le_trans (fl_len _ _) hGG.1)
  by_cases h10 : (spS (fl (mW f) m)).length = 0
  case neg =>
    have d10 : decide (0 < (spS (fl (mW f) m)).length) = true := decide_eq_true (by omega)
    generalize spS (fl (mW f) m) = L1 at *
    clear h10
    go_enter Try.func3, Try.ntmps3
    go_wp2_with fail
    refine calls_after2 (HRu.out _) ?_
    intro x1
    go_wp2_with fail
    refine calls_after2 (HGu.out _ x1.out) ?_
    intro x2
    go_wp2_with fail
    refine calls_after2 (HCs.out _ x2.out) ?_
    intro x3
    go_wp2_with fail
    refine (PM.out _ x3.out).mono ?_
    rintro e w4 ⟨⟨v, rfl, hv⟩, hb4⟩
    obtain ⟨va, vc, rfl⟩ := ownsR_shape (show w4.ownsRow _ 56 2 v _ _ from hv)
    obtain ⟨x4, rfl⟩ : ∃ x : After W1, w4 = x.w := ⟨⟨w4, x3.out.trans (hb4.mono x3.out.size)⟩, rfl⟩
    clear hv hb4 PM HRu HGu HCs
    go_wp2_with fail
    refine (PK.out _ x4.out).mono ?_
    rintro e w5 ⟨⟨u, rfl, hu⟩, hb5⟩
    obtain ⟨ua, uc, rfl⟩ := ownsR_shape hu
    obtain ⟨x5, rfl⟩ : ∃ x : After W1, w5 = x.w := ⟨⟨w5, x4.out.trans (hb5.mono x4.out.size)⟩, rfl⟩
    clear hu hb5 PK
    go_wp2_with fail
    refine calls_after2 (HAw.out _) ?_
    intro xe
    go_wp2
    go_ret
    exact ⟨by simp, B1.trans (xe.out.mono hs1)⟩
  have hgap := fl_none (List.eq_nil_of_length_eq_zero h10)
  by_cases h11 : (kpL n fr to lo hi m f).length = 0
  case neg =>
    have d11 : decide (0 < (kpL n fr to lo hi m f).length) = true := decide_eq_true (by omega)
    generalize spS (fl (mW f) m) = L1 at *
    generalize kpL n fr to lo hi m f = L2 at *
    clear h11
    go_enter Try.func3, Try.ntmps3
    go_wp2_with fail
    refine calls_after2 (HRu.out _) ?_
    intro x1
    go_wp2_with fail
    refine calls_after2 (HGu.out _ x1.out) ?_
    intro x2
    go_wp2_with fail
    refine calls_after2 (HCs.out _ x2.out) ?_
    intro x3
    go_wp2_with fail
    refine (PM.out _ x3.out).mono ?_
    rintro e w4 ⟨⟨v, rfl, hv⟩, hb4⟩
    obtain ⟨va, vc, rfl⟩ := ownsR_shape (show w4.ownsRow _ 56 2 v _ _ from hv)
    obtain ⟨x4, rfl⟩ : ∃ x : After W1, w4 = x.w := ⟨⟨w4, x3.out.trans (hb4.mono x3.out.size)⟩, rfl⟩
    clear hv hb4 PM HRu HGu HCs
    go_wp2_with fail
    refine (PK.out _ x4.out).mono ?_
    rintro e w5 ⟨⟨u, rfl, hu⟩, hb5⟩
    obtain ⟨ua, uc, rfl⟩ := ownsR_shape hu
    obtain ⟨x5, rfl⟩ : ∃ x : After W1, w5 = x.w := ⟨⟨w5, x4.out.trans (hb5.mono x4.out.size)⟩, rfl⟩
    clear hu hb5 PK
    go_wp2_with fail
    refine calls_after2 (HAw.out _) ?_
    intro xe
    go_wp2
    go_ret
    exact ⟨by simp, B1.trans (xe.out.mono hs1)⟩
  have HKB := Lib.hid (fun v (h : WnS n fr to lo hi mark true k 0 m 0 v) => kept_below eK h11 h)
  have hR : RngOk mark k 0 m := by
    have := hRu.1
    unfold Btw at this
    unfold RngOk Btw Wth
    omega
  have hWn : ∀ e v, WnS n fr to lo hi mark true k 0 m e v → e = 0 ∨ (e = 8 ∧ v = 0) := fun e v h => by
    unfold WnS at h
    rw [decide_eq_true hR, decide_eq_true hCC] at h
    rcases h with h | h
    · exact .inl h.1
    · exact .inr ⟨h.1, h.2.1⟩
  have HWn := Lib.hid hWn
  have hRu' := hRu
  unfold GoodRu Btw at hRu'
  have hf0 : ∀ i, i < m → 0 ≤ f i := fun i hi => by
    have h1 := hgap i hi
    have h2 := hGG.2 i hi
    unfold mW at h1
    unfold OkG Btw at h2
    have := beq_eq_false_iff_ne.1 h1
    omega
  have HF0 := Lib.hid hf0
  have hAsk : AskB s g c m f = true := by unfold AskB; rw [h3, h4]; rfl
  have HAk := Lib.hid hAsk
  generalize spS (fl (mW f) m) = L1 at *
  generalize kpL n fr to lo hi m f = L2 at *
  clear hWn hf0 hAsk hgap hR eM eL eK hRu hGG hCC h3 h4 h5
  go_enter Try.func3, Try.ntmps3
  go_wp2_with fail
  refine calls_after2 (HRu.out _) ?_
  intro x1
  go_wp2_with fail
  refine calls_after2 (HGu.out _ x1.out) ?_
  intro x2
  go_wp2_with fail
  refine calls_after2 (HCs.out _ x2.out) ?_
  intro x3
  go_wp2_with fail
  refine (PM.out _ x3.out).mono ?_
  rintro e w4 ⟨⟨v, rfl, hv⟩, hb4⟩
  obtain ⟨va, vc, rfl⟩ := ownsR_shape (show w4.ownsRow _ 56 2 v _ _ from hv)
  obtain ⟨x4, rfl⟩ : ∃ x : After W1, w4 = x.w := ⟨⟨w4, x3.out.trans (hb4.mono x3.out.size)⟩, rfl⟩
  clear hv hb4 PM HRu HGu HCs
  go_wp2_with fail
  refine (PK.out _ x4.out).mono ?_
  rintro e w5 ⟨⟨u, rfl, hu⟩, hb5⟩
  obtain ⟨ua, uc, rfl⟩ := ownsR_shape hu
  obtain ⟨x5, rfl⟩ : ∃ x : After W1, w5 = x.w := ⟨⟨w5, x4.out.trans (hb5.mono x4.out.size)⟩, rfl⟩
  clear hu hb5 PK
  go_wp2_with fail
  refine (PS.out _ x5.out).mono ?_
  rintro e w6 ⟨⟨t, e6, rfl, hw⟩, hb6⟩
  obtain ⟨x6, rfl⟩ : ∃ x : After W1, w6 = x.w := ⟨⟨w6, x5.out.trans (hb6.mono x5.out.size)⟩, rfl⟩
  clear hb6 PS
  rcases HWn.out _ _ hw with rfl | ⟨rfl, rfl⟩
  case inr =>
    clear hw PG HKB HF0
    go_wp2_with fail
    refine calls_after2 (HAw.out _) ?_
    intro xe
    go_wp2
    go_ret
    exact ⟨by simp, B1.trans (xe.out.mono hs1)⟩
  obtain ⟨q1, q2, q3, q4, q5⟩ := HKB.out t hw
  obtain ⟨p, rfl⟩ : ∃ p : Nat, t = p := ⟨t.toNat, by omega⟩
  obtain ⟨q, rfl⟩ : ∃ q : Nat, k = q := ⟨k.toNat, by omega⟩
  have Q5 := Lib.hid q5
  clear HKB hw q5 HWn
  go_wp2
  go_loopw [16, 17, 18, 19] (fun gs i _ _ wr => ∃ j : Nat, p ≤ j ∧ j ≤ p + q ∧ i = .int .i64 j ∧ gs = .bool (gsF s g c f p j) ∧ ∃ x : After W1, wr = x.w) (fun _ i _ _ _ => p + q - (intOf i).toNat)
  case atStart => exact ⟨p, by omega, by omega, rfl, by rw [gsF_start], x6, rfl⟩
  case round =>
    obtain ⟨j, hj, hjq, rfl, rfl, x, rfl⟩ := hrel
    by_cases hlt' : j < p + q
    · have hlti : (j : Int) < (p : Int) + (q : Int) := by omega
      have hjm : j < m := by omega
      have HGj := Lib.hid (fun W hW => PG.out (j : Int) W hW)
      have eB : goB s g c m f j = gW s g c f j := by
        unfold goB
        rw [HAk.out, decide_eq_true (show Btw (j : Int) 0 ((m : Int) - 1) by unfold Btw; omega)]
        simp
      have eE : goE s g c m f j = 0 := by
        unfold goE
        rw [HAk.out, if_pos rfl, if_pos (show Btw (j : Int) 0 ((m : Int) - 1) by unfold Btw; omega)]
      have hfj := HF0.out j hjm
      have hfm := Q5.out j (by omega) hlti
      have hon := fun h => gsF_on (s := s) (g := g) (c := c) (f := f) (p := p) (j := j) h hfj (by omega)
      have hbe : mark ≤ g → (p : Int) + c + 1 ≤ (j : Int) → gW s g c f j = true := fun h1 h2 =>
        gW_behind (t := p) (by omega) (by omega) (fun i a b => ⟨HF0.out i (by omega), by have := Q5.out i (by omega) (by omega); omega⟩) (by omega)
      have HNx : Hid (gsF s g c f p (j + 1) = gW s g c f j) := Lib.hid (gsF_next hj)
      rw [eB, eE] at HGj
      clear eB eE PG HF0 HAk Q5
      generalize gsF s g c f p j = b at *
      generalize gW s g c f j = z at *
      by_cases hmg : mark ≤ g
      · have dm : decide (mark ≤ g) = true := decide_eq_true hmg
        by_cases hpc : (p : Int) + c + 1 ≤ (j : Int)
        · have dp : decide ((p : Int) + c + 1 ≤ (j : Int)) = true := decide_eq_true hpc
          obtain rfl := hbe hmg hpc
          clear hbe hon
          cases b
          · skip
            go_wp2_with fail
            refine calls_after2 (HGj.out _ x.out) ?_
            intro y
            go_wp2
            go_roundw
            case rel => exact ⟨j + 1, by omega, by omega, by go_num, by rw [HNx.out], y, rfl⟩
            case measure => simp [intOf]; omega
          · skip
            go_wp2_with fail
            refine calls_after2 (HGj.out _ x.out) ?_
            intro y
            go_wp2
            go_roundw
            case rel => exact ⟨j + 1, by omega, by omega, by go_num, by rw [HNx.out], y, rfl⟩
            case measure => simp [intOf]; omega
        · have dp : decide ((p : Int) + c + 1 ≤ (j : Int)) = false := decide_eq_false hpc
          clear hbe
          cases b
          · cases z
            · clear hon
              go_wp2_with fail
              refine calls_after2 (HGj.out _ x.out) ?_
              intro y
              go_wp2
              go_roundw
              case rel => exact ⟨j + 1, by omega, by omega, by go_num, by rw [HNx.out], y, rfl⟩
              case measure => simp [intOf]; omega
            · clear hon
              go_wp2_with fail
              refine calls_after2 (HGj.out _ x.out) ?_
              intro y
              go_wp2
              go_roundw
              case rel => exact ⟨j + 1, by omega, by omega, by go_num, by rw [HNx.out], y, rfl⟩
              case measure => simp [intOf]; omega
          · obtain rfl := hon rfl
            clear hon
            go_wp2_with fail
            refine calls_after2 (HGj.out _ x.out) ?_
            intro y
            go_wp2
            go_roundw
            case rel => exact ⟨j + 1, by omega, by omega, by go_num, by rw [HNx.out], y, rfl⟩
            case measure => simp [intOf]; omega
      · have dm : decide (mark ≤ g) = false := decide_eq_false hmg
        clear hbe
        cases b
        · cases z
          · clear hon
            go_wp2_with fail
            refine calls_after2 (HGj.out _ x.out) ?_
            intro y
            go_wp2
            go_roundw
            case rel => exact ⟨j + 1, by omega, by omega, by go_num, by rw [HNx.out], y, rfl⟩
            case measure => simp [intOf]; omega
          · clear hon
            go_wp2_with fail
            refine calls_after2 (HGj.out _ x.out) ?_
            intro y
            go_wp2
            go_roundw
            case rel => exact ⟨j + 1, by omega, by omega, by go_num, by rw [HNx.out], y, rfl⟩
            case measure => simp [intOf]; omega
        · obtain rfl := hon rfl
          clear hon
          go_wp2_with fail
          refine calls_after2 (HGj.out _ x.out) ?_
          intro y
          go_wp2
          go_roundw
          case rel => exact ⟨j + 1, by omega, by omega, by go_num, by rw [HNx.out], y, rfl⟩
          case measure => simp [intOf]; omega
    · obtain rfl : j = p + q := by omega
      clear PG
      go_wp2_with fail
      refine calls_after2 (HAw.out _) ?_
      intro xe
      go_wp2
      go_ret
      exact ⟨by simp, B1.trans (xe.out.mono hs1)⟩
end Go.Proofs.Ytlnlgboeohfpdaa.Tw
