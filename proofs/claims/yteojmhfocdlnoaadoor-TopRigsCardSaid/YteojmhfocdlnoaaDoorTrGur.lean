/- The iterator of the links under one, whole: it calls itself. -/
import Derived.Test.YteojmhfocdlnoaaDoorTrGsm
import Derived.Test.YteojmhfocdlnoaaDoorTrGim
import Derived.Test.YteojmhfocdlnoaaDoorTrGie
namespace Go.Proofs.YteojmhfocdlnoaaDoor.Tr
open Go.Proofs.YteojmhfocdlnoaaDoor
open Go.RowKit Go.Shelf
attribute [local go_sem] Oper.semAt_some

/-- A link of another, and those under it. -/
def unF (lf : Nat → Int) (g : Nat → List Nat) (i k : Nat) : List Nat := if i < k ∧ lf k = (i : Int) then k :: g k else []
/-- The links under one, in their order. -/
def unL (lf : Nat → Int) (m : Nat) : Nat → Nat → List Nat
  | 0, _ => []
  | d + 1, i => (List.range m).flatMap (unF lf (unL lf m d) i)
/-- Those that come with the first k links. -/
def unP (lf : Nat → Int) (m d i k : Nat) : List Nat := (List.range k).flatMap (unF lf (unL lf m d) i)
theorem unP_succ (lf : Nat → Int) (m d i k : Nat) : unP lf m d i (k + 1) = unP lf m d i k ++ unF lf (unL lf m d) i k := by unfold unP; rw [List.range_succ, List.flatMap_append]; simp
theorem unP_start (lf : Nat → Int) (m d i : Nat) : ∀ k, k ≤ i + 1 → unP lf m d i k = []
  | 0, _ => rfl
  | k + 1, h => by rw [unP_succ, unP_start lf m d i k (by omega)]; unfold unF; rw [if_neg (by omega)]; rfl
theorem unP_tail (lf : Nat → Int) (m d i k : Nat) : ∀ r, ∃ t, unP lf m d i (k + r) = unP lf m d i k ++ t
  | 0 => ⟨[], by simp⟩
  | r + 1 => by
    obtain ⟨t, ht⟩ := unP_tail lf m d i k r
    exact ⟨t ++ unF lf (unL lf m d) i (k + r), by rw [← Nat.add_assoc, unP_succ, ht, List.append_assoc]⟩
theorem unL_cut {lf : Nat → Int} {m d i k : Nat} (hk : k < m) : ∃ t, unL lf m (d + 1) i = unP lf m d i k ++ unF lf (unL lf m d) i k ++ t := by
  obtain ⟨t, ht⟩ := unP_tail lf m d i (k + 1) (m - (k + 1))
  refine ⟨t, ?_⟩
  rw [show k + 1 + (m - (k + 1)) = m by omega, unP_succ] at ht
  exact ht
theorem roundIn_wide {n n' : Nat} {P : Program} {l l2 : Nat} {f : FuncId} {tmps : Array Value} {assign body : Code} {w : World} {R : Ending → World → Prop} (h : RoundIn Fence.wide n P l f tmps assign body w R) : RoundIn (Fence.wide.inRound l2) n' P l f tmps assign body w R := ⟨h.1, fun c cs _ => h.2 c cs (room_wide _)⟩
theorem lk_block {w : World} {al : Option Addr} {m : Nat} {lm : Nat → List UInt8} {lf : Nat → Int} (hL : LkAt w al m lm lf) : ∀ b off, al = some ⟨b, off, none⟩ → 0 < m → b < w.heap.size := fun b off e h => by
  obtain ⟨b', off', e', h1, _⟩ := hL 0 h
  rw [e] at e'; cases e'; exact h1
set_option maxRecDepth 100000 in
set_option maxHeartbeats 8000000 in
theorem under1_m (al : Option Addr) (m capl : Nat) (lm : Nat → List UInt8) (lf : Nat → Int) (iv : Value) (hm : m ≤ 1000) : ∀ (d i : Nat), m - i ≤ d → i < m → ∀ (q : Nat) (Bf Br : Nat) (M : Nat → Prop) (w : World), (∀ j, M j → j < w.heap.size) → ¬ M Bf → ¬ M Br → (∀ b off, al = some ⟨b, off, none⟩ → 0 < m → ¬ M b) →
    w.cell? ⟨Bf, 0, none⟩ = some (.int .i64 (i : Nat)) → w.cell? ⟨Br, 0, none⟩ = some (.slice al m capl) → w.cell? ⟨Br, 1, none⟩ = some iv → LkAt w al m lm lf →
    SeqM Fence.wide q Tryd.prog 50 #[.pointer (some ⟨Bf, 0, none⟩), .pointer (some ⟨Br, 0, none⟩)] (fun x : Nat => #[.int .i64 (x : Nat)]) M
      (fun pre x => ∃ r, unL lf m d i = pre ++ x :: r) (fun ys => ys = unL lf m d i) (fun _ => True) w := by
  intro d
  induction d with
  | zero => intro i hd hi; omega
  | succ d ih =>
    intro i hd hi q Bf Br M w hMw hMf hMr hMb hf hr0 hr1 hL l J Jx W hW hl0 hl hJ hJx hY h0
    have hb0 := lk_block hL
    have hBf := World.block_lt_of_cell? _ _ hf
    have hBr := World.block_lt_of_cell? _ _ hr0
    have hf := (hW.cell (p := ⟨Bf, 0, none⟩) hBf).trans hf
    have hr0 := (hW.cell (p := ⟨Br, 0, none⟩) hBr).trans hr0
    have hr1 := (hW.cell (p := ⟨Br, 1, none⟩) hBr).trans hr1
    have hL := hL.on hW
    have hsW := hW.size
    have HIh := Lib.hid ih
    have HY := Lib.hid hY
    have HJ := Lib.hid hJ
    have HJx := Lib.hid hJx
    have hmI : (m : Int) ≤ 1000 := by omega
    have hiI : (i : Int) < (m : Int) := by omega
    have hiw : IntKind.i64.wrap ((i : Int) + 1) = (i : Int) + 1 := by rw [IntKind.wrap_i64]; omega
    clear ih hY hJ hJx hW
    refine callsIn_of_wp_marks Tryd.func50 rfl trivial ?_ rfl
    simp only [Tryd.ntmps50, List.size_toArray, List.length_cons, List.length_nil, Nat.reduceAdd, Nat.reduceSub, Array.replicate_succ, Array.replicate_zero, List.push_toArray, List.append_toArray, List.nil_append, List.cons_append]
    have F0 : Fr (fun _ => False) W (W.alloc (.cells #[.func (.yield l) #[] #[]] 54)) := (Fr.refl W).alloc _
    have J0 := HJ.out _ _ _ h0 (F0.mono fun _ _ h => h.elim)
    have b0 : (W.alloc (.cells #[.func (.yield l) #[] #[]] 54)).cell? ⟨W.heap.size, 0, none⟩ = some (.func (.yield l) #[] #[]) := by simp [go_sem]
    have f0 := F0.cell (p := ⟨Bf, 0, none⟩) id hf
    have g0 := F0.cell (p := ⟨Br, 0, none⟩) id hr0
    have g1 := F0.cell (p := ⟨Br, 1, none⟩) id hr1
    have L0 := hL.fr F0 (fun _ _ _ _ => id)
    have s0 : (W.alloc (.cells #[.func (.yield l) #[] #[]] 54)).heap.size = W.heap.size + 1 := by simp
    clear hf hr0 hr1 hL h0 F0
    have HL0 := Lib.hid L0
    have HJ0 := Lib.hid J0
    clear L0 J0
    gi_wp2
    generalize W.alloc (.cells #[.func (.yield l) #[] #[]] 54) = W0 at *
    have HM1 := Lib.hid (fun j (h : j = l ∨ M j) => (show j < W.heap.size by rcases h with rfl | h; exact hl; have := hMw j h; omega))
    refine wpIn_loop (fun a' V => ∃ (k : Nat) (Ds : List Nat) (u8 u9 u10 u11 u12 u13 u14 u15 u16 u17 u18 u19 u20 u21 u22 u23 u24 u25 u26 u27 u28 u29 : Value), ((i < k ∧ k ≤ m) ∧ Hid (J (unP lf m d i k) V) ∧ Hid (Fr (fun j => j = l ∨ M j) W0 V) ∧ Hid (MrkOk W0.heap.size Ds V)) ∧
      a' = { tmps := #[.func (.yield l) #[] #[], .pointer (some ⟨Bf, 0, none⟩), .pointer (some ⟨Br, 0, none⟩), .pointer (some ⟨W.heap.size, 0, none⟩), .int .i64 (k : Nat), undef, .int .i64 (i : Nat), .int .i64 ((i : Int) + 1), u8, u9, u10, u11, u12, u13, u14, u15, u16, u17, u18, u19, u20, u21, u22, u23, u24, u25, u26, u27, u28, u29, undef, undef, undef, undef, undef], defers := Ds.map mkD })
      (fun a' _ => m - (intOf (a'.tmps.getD 4 undef)).toNat) ?start ?round
    case start => exact ⟨i + 1, [], _, _, _, _, _, _, _, _, _, _, _, _, _, _, _, _, _, _, _, _, _, _, ⟨⟨by omega, by omega⟩, by rw [unP_start _ _ _ _ _ (Nat.le_refl _)]; exact HJ0, Lib.hid (Fr.refl _), Lib.hid (MrkOk.nil _ _)⟩, rfl⟩
    case round =>
      rintro _ V ⟨k, Ds, u8, u9, u10, u11, u12, u13, u14, u15, u16, u17, u18, u19, u20, u21, u22, u23, u24, u25, u26, u27, u28, u29, ⟨⟨hik, hkm⟩, HJk, HF, HMk⟩, rfl⟩
      have hlW0 : l < W0.heap.size := by omega
      have hbn : ∀ B, B < W.heap.size + 1 → B ≠ l → ¬ M B → ¬ (B = l ∨ M B) := fun B _ h2 h3 h => by rcases h with h | h; exact h2 h; exact h3 h
      have c0 := HF.out.cell (p := ⟨W.heap.size, 0, none⟩) (fun h => by have := HM1.out _ h; dsimp only at this; omega) b0
      have cf := HF.out.cell (p := ⟨Bf, 0, none⟩) (hbn Bf (by omega) (by omega) hMf) f0
      have cr0 := HF.out.cell (p := ⟨Br, 0, none⟩) (hbn Br (by omega) (by omega) hMr) g0
      have cr1 := HF.out.cell (p := ⟨Br, 1, none⟩) (hbn Br (by omega) (by omega) hMr) g1
      have HLV := Lib.hid (HL0.out.fr HF.out (fun b off e h => hbn b (by have := hb0 b off e h; omega) (by have := hb0 b off e h; omega) (hMb b off e h)))
      have hsV := HF.out.size
      by_cases hlt : k < m
      · have hltI : (k : Int) < (m : Int) := by omega
        obtain ⟨b, off, rfl, hbb, d0, d1⟩ := HLV.out k hlt
        by_cases he : lf k = (i : Int)
        · have hne : (((i : Nat) : Int) != ((i : Nat) : Int)) = false := by simp
          have HP := Lib.hid (unP_succ lf m d i k)
          have HFk : Hid (unF lf (unL lf m d) i k = k :: unL lf m d k) := Lib.hid (by unfold unF; rw [if_pos ⟨by omega, he⟩])
          obtain ⟨tl, htl⟩ := unL_cut (lf := lf) (d := d) (i := i) hlt
          rw [HFk.out] at htl
          have HT := Lib.hid htl
          rw [he] at d1
          clear he htl
          have hJd := HJ.out _ _ V.drew HJk.out ((Fr.refl V).drew)
          obtain ⟨fn, tmps, assign, body, hy, hR⟩ := HY.out (unP lf m d i k) k V.drew ⟨unL lf m d k ++ tl, by rw [HT.out]; simp⟩ hJd (by simp; omega)
          have HRd := Lib.hid hR
          clear hR hJd HJk
          gi_wp2
          gi_region
          all_goals gi_wp2
          refine ⟨fun h => (by cases h), RoundIn.mono HRd.out ?_⟩
          rintro e VV ⟨hf, (⟨rfl, hJ4⟩ | ⟨rfl, hJx3⟩)⟩
          · have F1 : Fr (fun j => j = l ∨ M j) V VV := ((Fr.refl (M := fun j => j = l ∨ M j) V).drew).then hf (fun _ _ h _ => h)
            have cV0 := F1.cell (p := ⟨W.heap.size, 0, none⟩) (fun h => by have := HM1.out _ h; dsimp only at this; omega) c0
            have cVr0 := F1.cell (p := ⟨Br, 0, none⟩) (hbn Br (by omega) (by omega) hMr) cr0
            have cVr1 := F1.cell (p := ⟨Br, 1, none⟩) (hbn Br (by omega) (by omega) hMr) cr1
            have HL4 := Lib.hid (HLV.out.fr F1 (fun b off e h => hbn b (by have := hb0 b off e h; omega) (by have := hb0 b off e h; omega) (hMb b off e h)))
            have HF4 := Lib.hid (HF.out.then F1 (fun _ _ h _ => h))
            have HM4 := Lib.hid (HMk.out.fr F1 (fun D hD _ _ h => by have := HM1.out D h; omega))
            have HJ4 := Lib.hid hJ4
            have hsVV := F1.size
            have HUp := Lib.hid (fun X => under_mk (.slice (some ⟨b, off, none⟩) m capl) iv k X)
            clear F1 hf hJ4 HRd HF HMk hne d0 d1 c0 cf cr0 cr1
            gi_wp2
            refine ⟨trivial, fun h => (by cases h), (callsIn_wide.2 (HUp.out _)).mono ?_⟩
            rintro e w9 ⟨rfl, rfl⟩
            gi_wp2
            obtain ⟨V0, hV0⟩ : ∃ V0, (VV.alloc (.cells #[.slice (some ⟨b, off, none⟩) m capl, iv] 44)).alloc (.cells #[.int .i64 (k : Nat)] 3) = V0 := ⟨_, rfl⟩
            have fV : Fr (fun _ => False) VV V0 := by rw [← hV0]; exact ((Fr.refl VV).alloc _).alloc _
            have es : V0.heap.size = VV.heap.size + 2 := by rw [← hV0]; simp
            have ck : V0.cell? ⟨VV.heap.size + 1, 0, none⟩ = some (.int .i64 (k : Nat)) := by rw [← hV0]; simp [go_sem]
            have ca : V0.cell? ⟨VV.heap.size, 0, none⟩ = some (.slice (some ⟨b, off, none⟩) m capl) := by rw [← hV0]; simp [go_sem]
            have cb : V0.cell? ⟨VV.heap.size, 1, none⟩ = some iv := by rw [← hV0]; simp [go_sem]
            have cy := fV.cell (p := ⟨W.heap.size, 0, none⟩) id cV0
            have cw0 := fV.cell (p := ⟨Br, 0, none⟩) id cVr0
            have HL5 := HL4.out.fr fV (fun _ _ _ _ => id)
            have HJ5 := HJ.out _ _ _ HJ4.out (fV.mono fun _ _ h => h.elim)
            have HF5 := Lib.hid (HF4.out.then fV (fun _ _ _ _ => id))
            have HM5 := Lib.hid (HM4.out.fr fV (fun _ _ _ _ => id))
            rw [hV0]
            clear hV0 fV cV0 cVr0 cVr1 HL4 HJ4 HF4 HM4 HUp
            refine wpIn_rangeFunc_m rfl (fun h => by cases h) (gf := 50) (lb := #[.pointer (some ⟨VV.heap.size + 1, 0, none⟩), .pointer (some ⟨VV.heap.size, 0, none⟩)]) rfl trivial (enters_of Tryd.func50 (by kernel_rfl) rfl)
              (M := fun j => j = l ∨ M j)
              (HIh.out k (by omega) hlt (q - 1) (VV.heap.size + 1) VV.heap.size _ V0 (fun j h => by have := HM1.out j h; omega) (fun h => by have := HM1.out _ h; omega) (fun h => by have := HM1.out _ h; omega) (fun b off e h => hbn b (by have := hb0 b off e h; omega) (by have := hb0 b off e h; omega) (hMb b off e h)) ck ca cb HL5)
              (fun j h => by have := HM1.out j h; omega) (fun _ => rfl)
              (fun pre V => J (unP lf m d i k ++ [k] ++ pre) V ∧ Fr (fun j => j = l ∨ M j) V0 V)
              (fun c pre V => c = .ret ∧ Jx (unP lf m d i k ++ [k] ++ pre) V ∧ Fr (fun j => j = l ∨ M j) V0 V)
              (fun pre A A' hs hf => ⟨(BidesN.more (fun s A A' => HJ.out s A A') (by omega)) _ A A' hs.1 hf, hs.2.then hf (fun j hj _ _ h => by have := h.1; omega)⟩)
              (fun c pre A A' hs hf => ⟨hs.1, (BidesN.more (fun s A A' => HJx.out s A A') (by omega)) _ A A' hs.2.1 hf, hs.2.2.then hf (fun j hj _ _ h => by have := h.1; omega)⟩)
              ⟨by simpa using HJ5, Fr.refl _⟩
              (fun x => { tmps := #[.func (.yield l) #[] #[], .pointer (some ⟨Bf, 0, none⟩), .pointer (some ⟨Br, 0, none⟩), .pointer (some ⟨W.heap.size, 0, none⟩), .int .i64 (k : Nat), .int .i64 (x : Nat), .int .i64 (i : Nat), .int .i64 ((i : Int) + 1), .int .i64 (k : Nat), .pointer (some ⟨Br, 0, none⟩), .slice (some ⟨b, off, none⟩) m capl, .int .i64 (m : Nat), .bool true, u13, u14, .pointer (some ⟨Br, 0, none⟩), .slice (some ⟨b, off, none⟩) m capl, .int .i64 (k : Nat), .pointer (some ⟨b, off + k * 2, none⟩), .pointer (some ⟨b, off + k * 2 + 1, none⟩), .int .i64 (i : Nat), .int .i64 (i : Nat), .bool false, .func (.yield l) #[] #[], .int .i64 (k : Nat), .bool true, .bool false, .agg #[.slice (some ⟨b, off, none⟩) m capl, iv], .int .i64 (k : Nat), .func (.func 50) #[] #[.pointer (some ⟨VV.heap.size + 1, 0, none⟩), .pointer (some ⟨VV.heap.size, 0, none⟩)], .int .i64 (x : Nat), undef, undef, undef, undef], defers := [] })
              ?assign ?body ?done ?stop
            case assign =>
              intro l' x V K hK
              gi_wp2
              exact hK
            case body =>
              rintro l' pre x V hl' ⟨r2, hr2⟩ ⟨hj, hfr⟩ hsz
              obtain ⟨fn2, tmps2, assign2, body2, hy2, hR2⟩ := HY.out (unP lf m d i k ++ [k] ++ pre) x V ⟨r2 ++ tl, by rw [HT.out, hr2]; simp⟩ hj (by have := hfr.size; omega)
              have cy := hfr.cell (p := ⟨W.heap.size, 0, none⟩) (fun h => by have := HM1.out _ h; dsimp only at this; omega) cy
              have HR2 := Lib.hid hR2
              have HFr := Lib.hid hfr
              clear hR2 hj hfr hr2
              dsimp only
              gi_wp2
              refine ⟨fun h => (by cases h), RoundIn.mono (roundIn_wide HR2.out) ?_⟩
              rintro e VW ⟨hf, (⟨rfl, hJ6⟩ | ⟨rfl, hJx6⟩)⟩
              · have HQ : Hid (Fr (fun j => j = l ∨ M j) V VW ∧ J (unP lf m d i k ++ [k] ++ (pre ++ [x])) VW ∧ Fr (fun j => j = l ∨ M j) V0 VW) := Lib.hid ⟨hf, by simpa using hJ6, HFr.out.then hf (fun _ _ h _ => h)⟩
                clear hf hJ6
                gi_wp2
                exact HQ.out
              · have HQ : Hid (Fr (fun j => j = l ∨ M j) V VW ∧ Jx (unP lf m d i k ++ [k] ++ (pre ++ [x])) VW ∧ Fr (fun j => j = l ∨ M j) V0 VW) := Lib.hid ⟨hf, by simpa using hJx6, HFr.out.then hf (fun _ _ h _ => h)⟩
                clear hf hJx6
                gi_wp2
                exact ⟨HQ.out.1, rfl, HQ.out.2⟩
            case done =>
              rintro D ys V6 hD rfl ⟨hj, hfr⟩ hK
              have HQ : Hid (J (unP lf m d i (k + 1)) V6) := Lib.hid (by rw [HP.out, HFk.out]; simpa using hj)
              have HF6 := Lib.hid (HF5.out.then hfr (fun _ _ h _ => h))
              have HM6 : Hid (MrkOk W0.heap.size (D :: Ds) V6) := Lib.hid ((HM5.out.fr hfr (fun j hj _ _ h => by have := HM1.out j h; omega)).cons (fun D' hD' => (HM5.out.2 D' hD').2.1) hD (by have := HF5.out.size; omega) hK)
              clear hj hfr hK
              gi_wp2
              refine ⟨⟨k + 1, D :: Ds, _, _, _, _, _, _, _, _, _, _, _, _, _, _, _, _, _, _, _, _, _, _, ⟨⟨by omega, by omega⟩, HQ, HF6, HM6⟩, rfl⟩, ?_⟩
              simp [intOf]
              omega
            case stop =>
              rintro D c pre V6 hD _ ⟨rfl, hj, hfr⟩ hK
              have HM6 : Hid (MrkOk W0.heap.size (D :: Ds) V6) := Lib.hid ((HM5.out.fr hfr (fun j hj _ _ h => by have := HM1.out j h; omega)).cons (fun D' hD' => (HM5.out.2 D' hD').2.1) hD (by have := HF5.out.size; omega) hK)
              have HQ := Lib.hid hj
              clear hj hfr hK
              gi_wp2
              change LeavesInM _ _ _ _ _ _ ((D :: Ds).map mkD) .returning _
              refine leaves_mrk (D :: Ds) _ HM6.out.1 (fun D' hD' => (HM6.out.2 D' hD').2.2) fun W' hF' => ?_
              exact ⟨_, results_none rfl _ _ _, ⟨_, rfl⟩, .inr ⟨_, trivial, HJx.out _ _ _ HQ.out (hF'.mono fun j _ hm => ⟨by have := (HM6.out.2 j hm).1; omega, _, (HM6.out.2 j hm).2.2, rfl⟩)⟩⟩
          · have HM4 := Lib.hid (HMk.out.fr (((Fr.refl (M := fun j => j = l ∨ M j) V).drew).then hf (fun _ _ h _ => h)) (fun D hD _ _ h => by have := HM1.out D h; omega))
            have HQ := Lib.hid hJx3
            clear hf hJx3
            gi_wp2
            change LeavesInM _ _ _ _ _ _ (Ds.map mkD) .returning _
            refine leaves_mrk Ds _ HM4.out.1 (fun D' hD' => (HM4.out.2 D' hD').2.2) fun W' hF' => ?_
            exact ⟨_, results_none rfl _ _ _, ⟨_, rfl⟩, .inr ⟨_, trivial, HJx.out _ _ _ HQ.out (hF'.mono fun j _ hm => ⟨by have := (HM4.out.2 j hm).1; omega, _, (HM4.out.2 j hm).2.2, rfl⟩)⟩⟩
        · have hne : (lf k != ((i : Nat) : Int)) = true := by simp [he]
          have HP := Lib.hid (unP_succ lf m d i k)
          have HFk : Hid (unF lf (unL lf m d) i k = []) := Lib.hid (by unfold unF; rw [if_neg (fun h => he h.2)])
          clear he
          have HJd : Hid (J (unP lf m d i (k + 1)) V.drew) := Lib.hid (by rw [HP.out, HFk.out, List.append_nil]; exact HJ.out _ _ V.drew HJk.out ((Fr.refl V).drew))
          have HF4 := Lib.hid (HF.out.drew)
          have HM4 := Lib.hid (HMk.out.fr ((Fr.refl (M := fun _ => False) V).drew) (fun _ _ _ _ => id))
          clear HP HFk HJk HF HMk
          gi_wp2
          gi_region
          all_goals
            gi_wp2
            refine ⟨⟨k + 1, Ds, _, _, _, _, _, _, _, _, _, _, _, _, _, _, _, _, _, _, _, _, _, _, ⟨⟨by omega, by omega⟩, HJd, HF4, HM4⟩, rfl⟩, ?_⟩
            simp [intOf]
            omega
      · obtain rfl : k = m := by omega
        have HQ : Hid (unP lf k d i k = unL lf k (d + 1) i) := Lib.hid rfl
        gi_wp2
        change LeavesInM _ _ _ _ _ _ (Ds.map mkD) .returning _
        refine leaves_mrk Ds _ HMk.out.1 (fun D' hD' => (HMk.out.2 D' hD').2.2) fun W' hF' => ?_
        exact ⟨_, results_none rfl _ _ _, ⟨_, rfl⟩, .inl ⟨_, HQ.out, HJ.out _ _ _ HJk.out (hF'.mono fun j _ hm => ⟨by have := (HMk.out.2 j hm).1; omega, _, (HMk.out.2 j hm).2.2, rfl⟩)⟩⟩
end Go.Proofs.YteojmhfocdlnoaaDoor.Tr
