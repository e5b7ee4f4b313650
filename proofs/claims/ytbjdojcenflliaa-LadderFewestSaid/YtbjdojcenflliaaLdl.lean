/- lists$1 up to its first round. -/
import Derived.Test.YtbjdojcenflliaaLdk
namespace Go.Proofs.Ytbjdojcenflliaa
open Go.RowKit Go.Shelf Go.Maps
attribute [local go_sem] Oper.semAt_some

theorem leaves_one {F : Fence} {n : Nat} {P : Program} {fn : Func} {tmps : Array Value} {R : Ending → World → Prop} (D : Nat) (w : World) (hd : w.heap[D]? = some (.deferred (some [])))
    (h : ∀ W', Fr (fun j => j = D) w W' → LeavesInM F n P fn tmps R [] .returning W') : LeavesInM F n P fn tmps R [{ target := .collected D, args := #[] }] .returning w :=
  ⟨by simp, .inl ⟨D, _, rfl, run_takeDeferred hd, h _ (Fr.put w D _)⟩⟩
/-- What holds while the append and the call of a round are done in any order. -/
structure RC (Jx : Unit → World → Prop) (l : Nat) (M : Nat → Prop) (x : Nat) (Lr : List Nat) (V : World) (sv v' : Value) (b2 b4 b5 : Bool) (w' : World) : Prop where
  c5 : b5 = true → b4 = true
  c4 : b4 = true → b2 = true
  fr : b5 = false → Fr (fun _ => False) V w'
  own : b2 = true → b4 = false → w'.ownsRow V.heap.size 3 1 sv 1 (nvs [x])
  nat : b4 = true → b5 = false → NAt w' v' (x :: Lr)
  fin : b5 = true → Fr (fun j => j = l ∨ M j) V w' ∧ Jx () w'
set_option maxRecDepth 100000 in
set_option maxHeartbeats 4000000 in
theorem lists1_step (a : Option Addr) (n cap : Nat) (hg : Nat → Int) (us : Nat → Bool) (fi st la : Int) (c : Nat → Nat) (B t N : Nat) (hn : n ≤ 1000) (hc : ∀ k, c k ≤ 1000) (HX : RestX a n cap hg us fi st la c B t N)
    (q Br Bf Bh Bc Bn i : Nat) (ht : Int) (M : Nat → Prop) (w : World) (hls : lsL c (upT hg us n ht i) = N + 1) (hi : i ≤ 2000)
    (hM : ∀ j, M j → j < w.heap.size ∧ j ≠ B ∧ j ≠ Br ∧ j ≠ Bf ∧ j ≠ Bh ∧ j ≠ Bc ∧ j ≠ Bn) (hMb : ∀ b off, a = some ⟨b, off, none⟩ → 0 < n → ¬ M b)
    (hr : RtB w Br (.slice a n cap) fi st la) (hf : w.cell? ⟨Bf, 0, none⟩ = some (.int .i64 (i : Nat))) (hh : w.cell? ⟨Bh, 0, none⟩ = some (.int .i64 ht)) (hcm : w.cell? ⟨Bc, 0, none⟩ = some (.map (some B))) (hnn : w.cell? ⟨Bn, 0, none⟩ = some (.int .i64 ((N : Int) + 1))) (hA : JtAt w a n hg us) (hC : Ic w B t c) :
    SeqX Fence.wide q Try.prog 79 #[.pointer (some ⟨Br, 0, none⟩), .pointer (some ⟨Bf, 0, none⟩), .pointer (some ⟨Bh, 0, none⟩), .pointer (some ⟨Bc, 0, none⟩), .pointer (some ⟨Bn, 0, none⟩)] (fun x : Value => #[x]) M (fun x W => NAt W x (fsL hg us n st c (N + 1) ht i)) w := by
  intro l J Jx W hW hl0 hl hJ hJx hY h0
  have hab : ∀ b off, a = some ⟨b, off, none⟩ → 0 < n → b < w.heap.size := fun b off e h => by
    obtain ⟨b', off', e', h1, _⟩ := hA 0 h
    rw [e] at e'; cases e'; exact h1
  have hNle : (N : Int) + 1 ≤ 1000 := by
    obtain ⟨k, _, hk⟩ := ls_some (c := c) (L := upT hg us n ht i) (by omega)
    have := hc k
    omega
  obtain ⟨i0, hi0, hz0, hz1, hz2⟩ := info_parts intInfo3
  have hBr := hr.lt
  have hBf := World.block_lt_of_cell? _ _ hf
  have hBh := World.block_lt_of_cell? _ _ hh
  have hBc := World.block_lt_of_cell? _ _ hcm
  have hBn := World.block_lt_of_cell? _ _ hnn
  have hB := hC.lt
  dsimp only at hBf hBh hBc hBn
  have hf0 : Fr (fun _ => False) w W := (Fr.refl w).call hW
  have hsW := hW.size
  have hr := hr.fr hf0 id
  have hf := hf0.cell (p := ⟨Bf, 0, none⟩) id hf
  have hh := hf0.cell (p := ⟨Bh, 0, none⟩) id hh
  have hcm := hf0.cell (p := ⟨Bc, 0, none⟩) id hcm
  have hnn := hf0.cell (p := ⟨Bn, 0, none⟩) id hnn
  have hA := hA.fr hf0 (fun _ _ _ _ => id)
  have hC := hC.fr hf0 id
  obtain ⟨Z, hZ⟩ : ∃ Z, W.alloc (.cells #[.func (.yield l) #[] #[]] 62) = Z := ⟨_, rfl⟩
  have hZs : Z.heap.size = W.heap.size + 1 := by rw [← hZ]; simp
  have zy : Z.cell? ⟨W.heap.size, 0, none⟩ = some (.func (.yield l) #[] #[]) := by rw [← hZ]; simp [go_sem]
  have fz : Fr (fun _ => False) W Z := by rw [← hZ]; exact (Fr.refl W).alloc _
  have hr := hr.fr fz id
  have hf := fz.cell (p := ⟨Bf, 0, none⟩) id hf
  have hh := fz.cell (p := ⟨Bh, 0, none⟩) id hh
  have hcm := fz.cell (p := ⟨Bc, 0, none⟩) id hcm
  have hnn := fz.cell (p := ⟨Bn, 0, none⟩) id hnn
  have HU := Lib.hid (fun W => upTo_mk (.slice a n cap) fi st la (i : Nat) ht W)
  have HA := Lib.hid (hA.fr fz (fun _ _ _ _ => id))
  have HC := Lib.hid (hC.fr fz id)
  have HR := Lib.hid hr
  have HY := Lib.hid hY
  have HJ := Lib.hid hJ
  have HJx := Lib.hid hJx
  have HJ0 := Lib.hid (hJ () _ _ h0 (fz.mono fun _ _ h => h.elim))
  have HX := Lib.hid HX
  have HFZ := Lib.hid fz
  have g0 := hr.g0
  have g1 := hr.g1
  have g2 := hr.g2
  have g3 := hr.g3
  clear hA hC hr hY hJ hJx hW hf0 fz h0
  refine callsIn_of_wp_marks Try.func79 rfl trivial ?_ rfl
  simp only [Try.ntmps79, List.size_toArray, List.length_cons, List.length_nil, Nat.reduceAdd, Nat.reduceSub, Array.replicate_succ, Array.replicate_zero, List.push_toArray, List.append_toArray, List.nil_append, List.cons_append]
  gi_wp2
  refine ⟨trivial, fun h => (by cases h), (callsIn_wide.2 (HU.out Z)).mono ?_⟩
  rintro e w2 ⟨rfl, hZ2⟩
  have f2 : Fr (fun _ => False) Z w2 := by rw [← hZ2]; exact (((Fr.refl Z).alloc _).alloc _).alloc _
  have s2 : w2.heap.size = W.heap.size + 1 + 3 := by rw [← hZ2]; simp; omega
  have ur : RtB w2 Z.heap.size (.slice a n cap) fi st la := by
    rw [← hZ2]
    refine ⟨by simp; omega, by simp [go_sem], by simp [go_sem], by simp [go_sem], by simp [go_sem], fun o => by simp [go_sem]⟩
  have uf : w2.cell? ⟨Z.heap.size + 1, 0, none⟩ = some (.int .i64 (i : Nat)) := by rw [← hZ2]; simp [go_sem]
  have uh : w2.cell? ⟨Z.heap.size + 1 + 1, 0, none⟩ = some (.int .i64 ht) := by rw [← hZ2]; simp [go_sem]
  have HA2 := Lib.hid (HA.out.fr f2 (fun _ _ _ _ => id))
  have HC2 := Lib.hid (HC.out.fr f2 id)
  have HR2 := Lib.hid (HR.out.fr f2 id)
  have zy2 := f2.cell (p := ⟨W.heap.size, 0, none⟩) id zy
  have hcm2 := f2.cell (p := ⟨Bc, 0, none⟩) id hcm
  have hnn2 := f2.cell (p := ⟨Bn, 0, none⟩) id hnn
  have HJ2 := Lib.hid (HJ.out () _ _ HJ0.out (f2.mono fun _ _ h => h.elim))
  clear hZ2 hZ f2 HA HC HR zy hcm hnn HJ0 HU hf hh g0 g1 g2 g3
  rw [hZs] at ur uf uh
  gi_wp2
  have HMl : Hid (∀ j, (j = l ∨ M j) → j < W.heap.size) := Lib.hid (fun j h => by
    rcases h with rfl | h
    · exact hl
    · have := (hM j h).1; omega)
  have HMn : Hid (∀ j, (j = B ∨ j = Br ∨ j = Bf ∨ j = Bh ∨ j = Bc ∨ j = Bn ∨ W.heap.size ≤ j) → ¬ (j = l ∨ M j)) := Lib.hid (fun j h h2 => by
    rcases h2 with rfl | h2
    · omega
    · have := hM j h2; omega)
  have HMp : Hid (∀ b off, a = some ⟨b, off, none⟩ → 0 < n → ¬ (b = l ∨ M b)) := Lib.hid (fun b off e h h2 => by
    rcases h2 with rfl | h2
    · have := hab _ off e h; omega
    · exact hMb b off e h h2)
  refine wpIn_rangeFunc_ma rfl (fun h => (by cases h)) (gf := 82) (lb := #[.pointer (some ⟨W.heap.size + 1 + 1, 0, none⟩), .pointer (some ⟨W.heap.size + 1, 0, none⟩), .pointer (some ⟨W.heap.size + 1 + 1 + 1, 0, none⟩)]) rfl trivial (enters_of Try.func82 (by kernel_rfl) rfl)
    (M := fun j => j = l ∨ M j)
    (upTo1_m (q - 1) (W.heap.size + 1 + 1) (W.heap.size + 1 + 1 + 1) (W.heap.size + 1) a n cap hg us fi st la _ w2 (HMn.out _ (by omega)) (HMn.out _ (by omega)) (HMn.out _ (by omega)) HMp.out hn i ht hi uf uh ur HA2.out)
    (fun j h => by have := HMl.out j h; omega) (fun _ => rfl)
    (fun pre V => (∀ k ∈ pre, c k ≠ N + 1) ∧ J () V ∧ Fr (fun j => j = l ∨ M j) w2 V)
    (fun cd _ V => cd = .ret ∧ Jx () V)
    (fun pre A A' hs hf => ⟨hs.1, (BidesN.more (fun s A A' => HJ.out s A A') (by omega)) _ A A' hs.2.1 hf, hs.2.2.then hf (fun j hj _ _ h => by have := h.1; omega)⟩)
    (fun cd pre A A' hs hf => ⟨hs.1, (BidesN.more (fun s A A' => HJx.out s A A') (by omega)) _ A A' hs.2 hf⟩)
    ⟨fun k hk => (by cases hk), HJ2.out, Fr.refl _⟩
    (fun x a' V => ∃ Bi, w2.heap.size ≤ Bi ∧ Bi < V.heap.size ∧ V.cell? ⟨Bi, 0, none⟩ = some (.int .i64 (x : Nat)) ∧ a' = { tmps := #[.func (.yield l) #[] #[], .pointer (some ⟨Br, 0, none⟩), .pointer (some ⟨Bf, 0, none⟩), .pointer (some ⟨Bh, 0, none⟩), .pointer (some ⟨Bc, 0, none⟩), .pointer (some ⟨Bn, 0, none⟩), .pointer (some ⟨W.heap.size, 0, none⟩), .pointer (some ⟨Bi, 0, none⟩), undef, .agg #[.slice a n cap, .int .i64 fi, .int .i64 st, .int .i64 la], .int .i64 (i : Nat), .int .i64 ht, .func (.func 82) #[] #[.pointer (some ⟨W.heap.size + 1 + 1, 0, none⟩), .pointer (some ⟨W.heap.size + 1, 0, none⟩), .pointer (some ⟨W.heap.size + 1 + 1 + 1, 0, none⟩)], .int .i64 (x : Nat), undef, undef, undef, undef, undef, undef, undef, undef, undef, undef, undef, undef, undef, undef, undef, undef, undef, undef, undef], defers := [] })
    (fun x a' s A A' hs hf => by
      obtain ⟨Bi, h1, h2, h3, h4⟩ := hs
      refine ⟨Bi, h1, Nat.lt_of_lt_of_le h2 hf.size, hf.cell (p := ⟨Bi, 0, none⟩) (fun h => ?_) h3, h4⟩
      obtain ⟨o, ho, hc⟩ := h.2
      obtain ⟨o2, q1, q2⟩ := cells_of_cell h3
      rw [ho] at q1; cases q1; rw [hc] at q2; cases q2)
    ?assign ?body ?done ?stop
  case assign =>
    rintro l' pre x V K ⟨h1, h2, h3⟩ hsz hK
    have HK := Lib.hid hK
    clear hK h1 h2 h3
    gi_wp2
    exact HK.out _ _ ((Fr.refl (M := fun _ => False) V).alloc _) ⟨V.heap.size, by omega, by simp, by simp [go_sem], rfl⟩
  case body =>
    rintro l' pre x a' V hl' ⟨r', hr'⟩ ⟨rst, exs⟩ ⟨hpre, hJV, hFV⟩ ⟨Bi, hBi0, hBi1, hBi2, rfl⟩ hsz
    have hx := upT_of (show x ∈ upT hg us n ht i by rw [exs]; simp)
    have HAV := Lib.hid (HA2.out.fr hFV HMp.out)
    have HCV := Lib.hid (HC2.out.fr hFV (HMn.out _ (by omega)))
    have HRV := HR2.out.fr hFV (HMn.out _ (by omega))
    have v0 := HRV.g0
    have v1 := HRV.g1
    have v2 := HRV.g2
    have v3 := HRV.g3
    have vy := hFV.cell (p := ⟨W.heap.size, 0, none⟩) (HMn.out _ (by dsimp only; omega)) zy2
    have vc := hFV.cell (p := ⟨Bc, 0, none⟩) (HMn.out _ (by dsimp only; omega)) hcm2
    have vn := hFV.cell (p := ⟨Bn, 0, none⟩) (HMn.out _ (by dsimp only; omega)) hnn2
    obtain ⟨D, hD1, hD2, hD3, hD4⟩ := HCV.out
    have hkey := key_int x (by omega)
    have HD := Lib.hid hD1
    have hat0 := hD3 x
    have HJV := Lib.hid hJV
    have HFV := Lib.hid hFV
    have hcx := hc x
    clear hD1 hD2 hD3 hD4 HRV hJV hFV
    gi_wp2_with (gi_at_lookup; refine wpListIn_lookup_own_int _ rfl _ _ 81 rfl 3 3 .i64 lawI Try.underlying81 Try.underlying3 (zeroI _) B t D rfl HD.out _ _ rfl hkey ?_; intro cc hat hwc; (obtain rfl : ((c x : Nat) : Int) = cc := (by rw [hat0] at hat; simpa using hat)); clear hat hwc)
    · rename_i hne
      refine ⟨Fr.refl _, fun k hk => ?_, HJV.out, HFV.out⟩
      rcases List.mem_append.1 hk with hk | hk
      · exact hpre k hk
      · obtain rfl : k = x := by simpa using hk
        intro e
        rw [e] at hne
        simp at hne
    · have hne : (((c x : Nat) : Int) != (N : Int) + 1) = false := by assumption
      have hcx1 : c x = N + 1 := by
        have : ((c x : Nat) : Int) = (N : Int) + 1 := by simpa using hne
        omega
      have HRX := Lib.hid (HX.out x V hx.2.1 hcx1 HAV.out HCV.out)
      have HFs := Lib.hid (fsL_at (st := st) exs hpre hcx1)
      have hlt' := (Array.getElem?_eq_some_iff.1 hr').1
      refine ⟨trivial, fun h => (by cases h), (CallsIn.inRound l' (callsIn_wide.2 HRX.out)).mono ?_⟩
      rintro e w3 ⟨⟨g, lb, rfl, eg, hseq⟩, hb3⟩
      have F3 : Fr (fun _ => False) V w3 := (Fr.refl V).call hb3
      have hr3 := (F3.same _ hlt' id).trans hr'
      have vy3 := F3.cell (p := ⟨W.heap.size, 0, none⟩) id vy
      have vi3 := F3.cell (p := ⟨Bi, 0, none⟩) id hBi2
      have hs3 := F3.size
      have HSq := Lib.hid (hseq (q - 1 - 1 - 1) (fun j => j = l ∨ M j) (fun j h => ⟨by have := HMl.out j h; omega, fun e => HMn.out j (.inl e) h⟩) HMp.out)
      have HJ3 := Lib.hid (HJ.out () _ _ HJV.out (F3.mono fun _ _ h => h.elim))
      have HF3 := Lib.hid F3
      clear hseq hb3 HRX F3 v0 v1 v2 v3 vy vc vn HD hat0 hkey HAV HCV hr' hBi2
      gi_wp2
      refine wpIn_rangeFunc_xN rfl hr3 (fun h => (by cases h)) (gf := g) (lb := lb) rfl trivial eg
        (M := fun j => j = l ∨ M j)
        HSq.out (fun j h => by have := HMl.out j h; omega) (fun _ => rfl)
        (fun X => J () X ∧ Fr (fun j => j = l ∨ M j) w3 X)
        (fun cd X => cd = .ret ∧ Jx () X ∧ Fr (fun j => j = l ∨ M j) w3 X)
        (fun _ A A' hs hf => ⟨(BidesN.more (fun s A A' => HJ.out s A A') (by omega)) _ A A' hs.1 hf, hs.2.then hf (fun j hj _ _ h => by have := h.1; omega)⟩)
        (fun cd _ A A' hs hf => ⟨hs.1, (BidesN.more (fun s A A' => HJx.out s A A') (by omega)) _ A A' hs.2.1 hf, hs.2.2.then hf (fun j hj _ _ h => by have := h.1; omega)⟩)
        (fun x' => nat_bides _ x' _) ⟨HJ3.out, Fr.refl _⟩
        (fun rest => { tmps := #[.func (.yield l) #[] #[], .pointer (some ⟨Br, 0, none⟩), .pointer (some ⟨Bf, 0, none⟩), .pointer (some ⟨Bh, 0, none⟩), .pointer (some ⟨Bc, 0, none⟩), .pointer (some ⟨Bn, 0, none⟩), .pointer (some ⟨W.heap.size, 0, none⟩), .pointer (some ⟨Bi, 0, none⟩), rest, .agg #[.slice a n cap, .int .i64 fi, .int .i64 st, .int .i64 la], .int .i64 (i : Nat), .int .i64 ht, .func (.func 82) #[] #[.pointer (some ⟨W.heap.size + 1 + 1, 0, none⟩), .pointer (some ⟨W.heap.size + 1, 0, none⟩), .pointer (some ⟨W.heap.size + 1 + 1 + 1, 0, none⟩)], .int .i64 (x : Nat), .map (some B), .int .i64 (x : Nat), .int .i64 ((N : Int) + 1), .int .i64 ((N : Int) + 1), .bool false, .agg #[.slice a n cap, .int .i64 fi, .int .i64 st, .int .i64 la], .map (some B), .int .i64 (x : Nat), .int .i64 ((N : Int) + 1), .int .i64 (N : Nat), .func (.func g) #[] lb, rest, undef, undef, undef, undef, undef, undef, undef], defers := [] })
        ?assign2 ?body2 ?stop2
      case assign2 =>
        intro l2 rest V2 K hK
        gi_wp2
        exact hK
      case body2 =>
        rintro l2 rest V2 hl2 hr2 hNr ⟨hJ2, hF2⟩ hsz2
        have hs2 := hF2.size
        have HFl : Hid ((fsL hg us n st c N (hg x + st) (x + 1)).length ≤ 1000) := Lib.hid (Nat.le_trans (fsL_len _ _ _) (by omega))
        have HNr := Lib.hid hNr
        have HF2 := Lib.hid hF2
        have HJb : Hid (∀ w', Fr (fun _ => False) V2 w' → J () w') := Lib.hid fun w' hf => HJ.out () _ _ hJ2 (hf.mono fun _ _ h => h.elim)
        have vy2 := hF2.cell (p := ⟨W.heap.size, 0, none⟩) (HMn.out _ (by dsimp only; omega)) vy3
        have vi2 := hF2.cell (p := ⟨Bi, 0, none⟩) (HMn.out _ (by dsimp only; omega)) vi3
        have HC0 : Hid (∀ (sv v' : Value) (b2 b4 b5 : Bool) (w' : World), RC Jx l M x (fsL hg us n st c N (hg x + st) (x + 1)) V2 sv v' b2 b4 b5 w' → w'.cell? ⟨W.heap.size, 0, none⟩ = some (.func (.yield l) #[] #[]) ∧ w'.cell? ⟨Bi, 0, none⟩ = some (.int .i64 (x : Nat))) := Lib.hid (fun sv v' b2 b4 b5 w' h => by
          have f : Fr (fun j => j = l ∨ M j) V2 w' := by
            cases b5
            · exact (h.fr rfl).mono fun _ _ h => h.elim
            · exact (h.fin rfl).1
          exact ⟨f.cell (p := ⟨W.heap.size, 0, none⟩) (HMn.out _ (by dsimp only; omega)) vy2, f.cell (p := ⟨Bi, 0, none⟩) (HMn.out _ (by dsimp only; omega)) vi2⟩)
        clear hNr hJ2 hF2 vy2 vi2 vy3 vi3 hr2 hr3 eg HSq HJ3
        gi_wp2
        refine wpIn_region_inv (by kernel_rfl) (fun L aa w' => L.size = 7 ∧ ∃ sv v', aa = { tmps := #[.func (.yield l) #[] #[], .pointer (some ⟨Br, 0, none⟩), .pointer (some ⟨Bf, 0, none⟩), .pointer (some ⟨Bh, 0, none⟩), .pointer (some ⟨Bc, 0, none⟩), .pointer (some ⟨Bn, 0, none⟩), .pointer (some ⟨W.heap.size, 0, none⟩), .pointer (some ⟨Bi, 0, none⟩), rest, .agg #[.slice a n cap, .int .i64 fi, .int .i64 st, .int .i64 la], .int .i64 (i : Nat), .int .i64 ht, .func (.func 82) #[] #[.pointer (some ⟨W.heap.size + 1 + 1, 0, none⟩), .pointer (some ⟨W.heap.size + 1, 0, none⟩), .pointer (some ⟨W.heap.size + 1 + 1 + 1, 0, none⟩)], .int .i64 (x : Nat), .map (some B), .int .i64 (x : Nat), .int .i64 ((N : Int) + 1), .int .i64 ((N : Int) + 1), .bool false, .agg #[.slice a n cap, .int .i64 fi, .int .i64 st, .int .i64 la], .map (some B), .int .i64 (x : Nat), .int .i64 ((N : Int) + 1), .int .i64 (N : Nat), .func (.func g) #[] lb, rest, bif L.getD 0 false then .func (.yield l) #[] #[] else undef, bif L.getD 1 false then .int .i64 (x : Nat) else undef, bif L.getD 2 false then sv else undef, bif L.getD 3 false then rest else undef, bif L.getD 4 false then v' else undef, bif L.getD 5 false then .bool false else undef, bif L.getD 6 false then .bool true else undef], defers := [] } ∧ RC Jx l M x (fsL hg us n st c N (hg x + st) (x + 1)) V2 sv v' (L.getD 2 false) (L.getD 4 false) (L.getD 5 false) w') ?fin ?step ?start
        case start => exact ⟨by simp, undef, undef, rfl, (show RC Jx l M x (fsL hg us n st c N (hg x + st) (x + 1)) V2 undef undef false false false V2.drew from ⟨fun h => h, fun h => h, fun _ => (Fr.refl V2).drew, fun h => (by cases h), fun h => (by cases h), fun h => (by cases h)⟩)⟩
        case fin =>
          rintro L aa w4 ⟨hL, sv, v', rfl, hRC⟩ hrd
          have hall := all_listed (by simpa using hL) (by kernel_rfl) hrd
          have e0 : L.getD 0 false = true := hall 0 (by simp)
          have e1 : L.getD 1 false = true := hall 1 (by simp)
          have e2 : L.getD 2 false = true := hall 2 (by simp)
          have e3 : L.getD 3 false = true := hall 3 (by simp)
          have e4 : L.getD 4 false = true := hall 4 (by simp)
          have e5 : L.getD 5 false = true := hall 5 (by simp)
          have e6 : L.getD 6 false = true := hall 6 (by simp)
          simp only [e0, e1, e2, e3, e4, e5, e6, cond_true]
          have HQ := Lib.hid (hRC.fin e5)
          clear e0 e1 e2 e3 e4 e5 e6 hall hrd hL L hRC
          gi_wp2
          exact ⟨HQ.out.1, rfl, HQ.out.2, HF2.out.then HQ.out.1 (fun _ _ h _ => h)⟩
        case step =>
          rintro L aa w' ⟨hL, sv, v', rfl, hRC⟩ k hk
          obtain ⟨q0, q1⟩ := HC0.out _ _ _ _ _ _ hRC
          have hlt : k < 7 := List.mem_range.1 (List.mem_filter.1 hk).1
          have ha := fun o ho => ready_after (o := o) hk ho
          have hun : L.getD k false = false := by
            obtain ⟨h1, h2⟩ := ready_un hk
            unfold Array.getD
            rw [dif_pos h1]; exact h2
          have hset : ∀ j, (L.setIfInBounds k true).getD j false = if j = k then true else L.getD j false := fun j => getD_set (by omega)
          refine wpOpIn_mono (K := fun a' w2 => ∃ sv v', a' = { tmps := #[.func (.yield l) #[] #[], .pointer (some ⟨Br, 0, none⟩), .pointer (some ⟨Bf, 0, none⟩), .pointer (some ⟨Bh, 0, none⟩), .pointer (some ⟨Bc, 0, none⟩), .pointer (some ⟨Bn, 0, none⟩), .pointer (some ⟨W.heap.size, 0, none⟩), .pointer (some ⟨Bi, 0, none⟩), rest, .agg #[.slice a n cap, .int .i64 fi, .int .i64 st, .int .i64 la], .int .i64 (i : Nat), .int .i64 ht, .func (.func 82) #[] #[.pointer (some ⟨W.heap.size + 1 + 1, 0, none⟩), .pointer (some ⟨W.heap.size + 1, 0, none⟩), .pointer (some ⟨W.heap.size + 1 + 1 + 1, 0, none⟩)], .int .i64 (x : Nat), .map (some B), .int .i64 (x : Nat), .int .i64 ((N : Int) + 1), .int .i64 ((N : Int) + 1), .bool false, .agg #[.slice a n cap, .int .i64 fi, .int .i64 st, .int .i64 la], .map (some B), .int .i64 (x : Nat), .int .i64 ((N : Int) + 1), .int .i64 (N : Nat), .func (.func g) #[] lb, rest, bif (if 0 = k then true else L.getD 0 false) then .func (.yield l) #[] #[] else undef, bif (if 1 = k then true else L.getD 1 false) then .int .i64 (x : Nat) else undef, bif (if 2 = k then true else L.getD 2 false) then sv else undef, bif (if 3 = k then true else L.getD 3 false) then rest else undef, bif (if 4 = k then true else L.getD 4 false) then v' else undef, bif (if 5 = k then true else L.getD 5 false) then .bool false else undef, bif (if 6 = k then true else L.getD 6 false) then .bool true else undef], defers := [] } ∧ RC Jx l M x (fsL hg us n st c N (hg x + st) (x + 1)) V2 sv v' (if 2 = k then true else L.getD 2 false) (if 4 = k then true else L.getD 4 false) (if 5 = k then true else L.getD 5 false) w2) (fun a' w2 h => by obtain ⟨sv, v', e, h2⟩ := h; exact ⟨by simp [hL], sv, v', by simp only [hset]; exact e, by simp only [hset]; exact h2⟩) ?_
          clear hk
          have hi7 : k = 0 ∨ k = 1 ∨ k = 2 ∨ k = 3 ∨ k = 4 ∨ k = 5 ∨ k = 6 := by omega
          rcases hi7 with rfl | rfl | rfl | rfl | rfl | rfl | rfl
          · clear hset
            clear ha hun
            refine wpOpIn_step rfl (fun K hK => ?_)
            generalize L.getD 0 false = b0 at hK hRC ⊢
            generalize L.getD 1 false = b1 at hK hRC ⊢
            generalize L.getD 2 false = b2 at hK hRC ⊢
            generalize L.getD 3 false = b3 at hK hRC ⊢
            generalize L.getD 4 false = b4 at hK hRC ⊢
            generalize L.getD 5 false = b5 at hK hRC ⊢
            generalize L.getD 6 false = b6 at hK hRC ⊢
            go_simp
            exact hK _ _ ⟨sv, v', rfl, hRC⟩
          · clear hset
            clear ha hun
            refine wpOpIn_step rfl (fun K hK => ?_)
            generalize L.getD 0 false = b0 at hK hRC ⊢
            generalize L.getD 1 false = b1 at hK hRC ⊢
            generalize L.getD 2 false = b2 at hK hRC ⊢
            generalize L.getD 3 false = b3 at hK hRC ⊢
            generalize L.getD 4 false = b4 at hK hRC ⊢
            generalize L.getD 5 false = b5 at hK hRC ⊢
            generalize L.getD 6 false = b6 at hK hRC ⊢
            go_simp
            exact hK _ _ ⟨sv, v', rfl, hRC⟩
          · clear hset
            have p1 : L.getD 1 false = true := ha _ rfl ⟨1, .data⟩ (by simp) rfl
            have pk : L.getD 2 false = false := hun
            clear ha hun
            have r4 : L.getD 4 false = false := by
              cases h : L.getD 4 false with
              | false => rfl
              | true => rw [hRC.c4 h] at pk; cases pk
            have r5 : L.getD 5 false = false := by
              cases h : L.getD 5 false with
              | false => rfl
              | true => rw [hRC.c5 h] at r4; cases r4
            refine wpOpIn_step rfl (fun K hK => ?_)
            simp only [p1, pk, r4, r5] at hK hRC ⊢
            generalize L.getD 0 false = b0 at hK hRC ⊢
            generalize L.getD 3 false = b3 at hK hRC ⊢
            generalize L.getD 6 false = b6 at hK hRC ⊢
            have hFr := hRC.fr rfl
            have hsz4 := hFr.size
            go_simp
            refine hK _ _ ⟨_, v', rfl, fun h => (by cases h), fun _ => rfl, fun _ => hFr.alloc _, fun _ _ => ?_, fun h => (by cases h), fun h => (by cases h)⟩
            exact World.ownsRow_lit w' #[.int .i64 (x : Nat)] 1 hsz4 (by unfold maxLen; omega) rfl
          · clear hset
            clear ha hun
            refine wpOpIn_step rfl (fun K hK => ?_)
            generalize L.getD 0 false = b0 at hK hRC ⊢
            generalize L.getD 1 false = b1 at hK hRC ⊢
            generalize L.getD 2 false = b2 at hK hRC ⊢
            generalize L.getD 3 false = b3 at hK hRC ⊢
            generalize L.getD 4 false = b4 at hK hRC ⊢
            generalize L.getD 5 false = b5 at hK hRC ⊢
            generalize L.getD 6 false = b6 at hK hRC ⊢
            go_simp
            exact hK _ _ ⟨sv, v', rfl, hRC⟩
          · clear hset
            have p2 : L.getD 2 false = true := ha _ rfl ⟨2, .data⟩ (by simp) rfl
            have p3 : L.getD 3 false = true := ha _ rfl ⟨3, .data⟩ (by simp) rfl
            have pk : L.getD 4 false = false := hun
            clear ha hun
            have r5 : L.getD 5 false = false := by
              cases h : L.getD 5 false with
              | false => rfl
              | true => rw [hRC.c5 h] at pk; cases pk
            refine wpOpIn_step rfl (fun K hK => ?_)
            simp only [p2, p3, pk, r5] at hK hRC ⊢
            generalize L.getD 0 false = b0 at hK hRC ⊢
            generalize L.getD 1 false = b1 at hK hRC ⊢
            generalize L.getD 6 false = b6 at hK hRC ⊢
            have hFr := hRC.fr rfl
            have hown := hRC.own rfl rfl
            have hNr := HNr.out.fr hFr (fun _ _ _ _ _ _ => id)
            rw [if_pos (show Region.wanted _ _ = true from rfl)]
            refine wpIn_append_nat w' _ _ 25 rfl V2.heap.size 3 i0 (.int .i64 0) Try.underlying25 hi0 hz0 hz1 hz2 rfl sv [x] rfl hown rest _ rfl hNr (by have := HFl.out; simp only [List.length_cons, List.length_nil]; omega) hFr.size ?_
            intro v3 w3' hown' hgrow
            have F3 : Fr (fun _ => False) V2 w3' := hFr.grown hgrow (fun k e => .inr (hown.lt k e).1)
            exact hK _ _ ⟨sv, v3, rfl, fun _ => rfl, fun _ => rfl, fun _ => F3, fun _ h => (by cases h), fun _ _ => nat_of_own hown' (by simp), fun h => (by cases h)⟩
          · clear hset
            have p0 : L.getD 0 false = true := ha _ rfl ⟨0, .data⟩ (by simp) rfl
            have p4 : L.getD 4 false = true := ha _ rfl ⟨4, .data⟩ (by simp) rfl
            have pk : L.getD 5 false = false := hun
            clear ha hun
            have r2 := hRC.c4 p4
            refine wpOpIn_step rfl (fun K hK => ?_)
            simp only [p0, r2, p4, pk] at hK hRC ⊢
            generalize L.getD 1 false = b1 at hK hRC ⊢
            generalize L.getD 3 false = b3 at hK hRC ⊢
            generalize L.getD 6 false = b6 at hK hRC ⊢
            have hFr := hRC.fr rfl
            have hNv := hRC.nat rfl rfl
            rw [← HFs.out] at hNv
            obtain ⟨fn, tmps, assign, body, hy, hRd⟩ := HY.out v' w' hNv (HJb.out w' hFr) (by have := hFr.size; omega)
            have HRd := Lib.hid hRd
            clear hRd
            go_simp
            refine ⟨fun h => (by cases h), RoundIn.mono (roundIn_wide3 HRd.out) ?_⟩
            rintro e w4 ⟨hf4, rfl, hJ4⟩
            exact hK _ _ ⟨sv, v', rfl, fun _ => rfl, fun _ => rfl, fun h => (by cases h), fun _ h => (by cases h), fun _ h => (by cases h), fun _ => ⟨(hFr.mono fun _ _ h => h.elim).then hf4 (fun _ _ h _ => h), hJ4⟩⟩
          · clear hset
            have p5 : L.getD 5 false = true := ha _ rfl ⟨5, .data⟩ (by simp) rfl
            clear ha hun
            refine wpOpIn_step rfl (fun K hK => ?_)
            simp only [p5] at hK hRC ⊢
            generalize L.getD 0 false = b0 at hK hRC ⊢
            generalize L.getD 1 false = b1 at hK hRC ⊢
            generalize L.getD 2 false = b2 at hK hRC ⊢
            generalize L.getD 3 false = b3 at hK hRC ⊢
            generalize L.getD 4 false = b4 at hK hRC ⊢
            generalize L.getD 6 false = b6 at hK hRC ⊢
            go_simp
            exact hK _ _ ⟨sv, v', rfl, hRC⟩
      case stop2 =>
        rintro cd X ⟨rfl, hjx⟩
        have HQ := Lib.hid hjx
        clear hjx
        gi_wp2
        exact ⟨(HF3.out.mono fun _ _ h => h.elim).then HQ.out.2 (fun _ _ h _ => h), rfl, HQ.out.1⟩
  case done =>
    rintro D ys V hD rfl ⟨hno, _⟩ hK
    obtain ⟨k, hk, hck⟩ := ls_some (c := c) (L := upT hg us n ht i) (by omega)
    exact absurd (hck.trans hls) (hno k hk)
  case stop =>
    rintro D cd pre V hD _ ⟨rfl, hjx⟩ hK
    have HQ := Lib.hid hjx
    have HKd := Lib.hid hK
    clear hjx hK
    gi_wp2
    refine leaves_one D _ HKd.out fun W' hF' => ?_
    exact ⟨_, results_none rfl _ _ _, ⟨_, rfl⟩, HJx.out () _ _ HQ.out (hF'.mono fun j _ e => ⟨by omega, _, e ▸ HKd.out, rfl⟩)⟩
theorem restS_x (a : Option Addr) (n cap : Nat) (hg : Nat → Int) (us : Nat → Bool) (fi st la : Int) (B t N : Nat) (hn : n ≤ 1000) (h1 : ∀ k < n, -1000000 ≤ hg k ∧ hg k ≤ 1000000) (h2 : -1000000 ≤ st ∧ st ≤ 1000000)
    (HX : RestX a n cap hg us fi st la (ctN hg us n st la) B t N) : RestX a n cap hg us fi st la (ctN hg us n st la) B t (N + 1) := fun k w hk hck hA hC => by
  have hl : lsL (ctN hg us n st la) (upT hg us n (hg k + st) (k + 1)) = N + 1 := ctN_next hk hck
  have h := rests_s a n cap hg us B fi st la k N w hA hk hn (h1 k hk) h2
  rw [show ((N : Int) + 1) = ((N + 1 : Nat) : Int) by omega] at h
  refine h.mono ?_
  rintro e w2 ⟨⟨S, hS, hS5, rfl, r, c2, c3, c1, c4⟩, hb⟩
  have f : Fr (fun _ => False) w w2 := (Fr.refl w).call hb
  refine ⟨⟨_, _, rfl, enters_of Try.func79 (by kernel_rfl) rfl, fun q M hM hMb => ?_⟩, hb⟩
  refine lists1_step a n cap hg us fi st la _ B t N hn (fun j => Nat.le_trans (ctS_le n j) hn) HX q S (S + 1 + 1) (S + 1 + 1 + 1) (S + 1) (S + 1 + 1 + 1 + 1) (k + 1) (hg k + st) M w2 hl (by omega) (fun j hj => ?_) hMb r c2 c3 c1 ?_ (hA.fr f (fun _ _ _ _ => id)) (hC.fr f id)
  · have := hM j hj
    exact ⟨by omega, by omega, by omega, by omega, by omega, by omega, by omega⟩
  · rw [c4]; congr 2
theorem rest_x (a : Option Addr) (n cap : Nat) (hg : Nat → Int) (us : Nat → Bool) (fi st la : Int) (B t : Nat) (hn : n ≤ 1000) (h1 : ∀ k < n, -1000000 ≤ hg k ∧ hg k ≤ 1000000) (h2 : -1000000 ≤ st ∧ st ≤ 1000000) :
    ∀ N, RestX a n cap hg us fi st la (ctN hg us n st la) B t N
  | 0 => rest0_x a n cap hg us fi st la _ B t
  | N + 1 => restS_x a n cap hg us fi st la B t N hn h1 h2 (rest_x a n cap hg us fi st la B t hn h1 h2 N)
end Go.Proofs.Ytbjdojcenflliaa
