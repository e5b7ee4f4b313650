/- Looked, in both. -/
import Derived.Test.YteojmhfocdlnoaaDoorTrGwi
import Derived.Test.YteojmhfocdlnoaaDoorTrGfi
namespace Go.Proofs.YteojmhfocdlnoaaDoor.Tr
open Go.Proofs.YteojmhfocdlnoaaDoor
open Go.RowKit
attribute [local go_sem] After.cell After.frozen After.lt After.le After.ne After.ne' After.set_eq After.size_set After.lt_add tx_size tx_toList

theorem updF_self {α : Type} (g : Nat → α) (i : Nat) : updF g i (g i) = g := by funext k; unfold updF; split <;> simp_all
/-- The error of Looked. -/
def lkE (b : Bool) (o : Option Nat) (d : Int) : Int := if b then (if Btw d 0 100000 then (match o with | some _ => 0 | none => 5) else 7) else 1
/-- What Looked answers. -/
def LkA (n : Nat) (gm : Nat → List UInt8) (gl gd : Nat → Int) (gb : Nat → List UInt8) (o : Option Nat) (d : Int) (c : Int) (W : World) (e : Ending) : Prop :=
  (c ≠ 0 ∧ e = .returned (.tuple #[.slice none 0 0, .int .i64 c])) ∨ (c = 0 ∧ ∃ i a' c', o = some i ∧ i < n ∧ e = .returned (.tuple #[.slice a' n c', .int .i64 0]) ∧ n ≤ c' ∧ ItAt W a' n gm gl (updF gd i d) gb)
section
variable (a : Option Addr) (n cap : Nat) (gm : Nat → List UInt8) (gl gd : Nat → Int) (gb : Nat → List UInt8) (w : World) (hA : ItAt w a n gm gl gd gb) (hn : n ≤ 1000) (hcap : n ≤ cap) (h1 : Sht n gm) (h2 : Sht n gb)
include hA hn hcap h1 h2
set_option maxRecDepth 100000 in
set_option maxHeartbeats 1000000 in
theorem looked_any (m : List UInt8) (hmm : m.length ≤ 9223372036854775807) (d : Int) : Calls Tryd.prog 10 #[.slice a n cap, .string (tx m), .int .i64 d] w fun e w' => LkA n gm gl gd gb (fdN gm n m) d (lkE (vgB n gm gl gd gb) (fdN gm n m) d) w' e ∧ Below w.heap.size w w' := by
  have HF := Lib.hid (find_say a n cap gm gl gd gb w hA hn h1 h2 m hmm)
  have HD := Lib.hid (fun W => validDay_any d W)
  unfold fiN fiE at HF
  cases hb : vgB n gm gl gd gb
  · rw [hb] at HF
    clear hb hA h1 h2 HD
    go_enter Tryd.func10, Tryd.ntmps10
    go_wp2_with fail
    refine HF.out.mono ?_
    rintro e w2 ⟨rfl, hb2⟩
    have HB2 := Lib.hid hb2
    clear hb2 HF
    go_wp2
    go_returns
    exact ⟨.inl ⟨by simp [lkE], rfl⟩, HB2.out⟩
  · rw [hb] at HF
    by_cases hd : Btw d 0 100000
    · rw [decide_eq_true hd] at HD
      cases ho : fdN gm n m with
      | none =>
        rw [ho] at HF
        clear hb ho hA h1 h2
        go_enter Tryd.func10, Tryd.ntmps10
        go_wp2_with fail
        refine HF.out.mono ?_
        rintro e w2 ⟨rfl, hb2⟩
        have HB2 := Lib.hid hb2
        clear hb2 HF
        go_wp2_with (go_at_call 18; refine (HD.out _).mono ?_; rintro e w9 ⟨rfl, rfl⟩)
        go_returns
        exact ⟨.inl ⟨by simp [lkE, hd], by simp [lkE, hd]⟩, HB2.out⟩
      | some i =>
        rw [ho] at HF
        have hi := (fdN_some' ho).1
        have hiI : (i : Int) < (n : Int) := by omega
        have HA := Lib.hid hA
        have HW := Lib.hid (fun W (hW : Below w.heap.size w W) => withI_any a n cap gm gl gd gb i (gm i) (gb i) (gl i) d W (hA.on hW) hn hcap hi)
        rw [updF_self, updF_self, updF_self] at HW
        have hnI : (n : Int) ≤ 1000 := by omega
        clear hb ho hA h1 h2
        go_enter Tryd.func10, Tryd.ntmps10
        go_wp2_with fail
        refine HF.out.mono ?_
        rintro e w2 ⟨rfl, hb2⟩
        have HB2 := Lib.hid hb2
        obtain ⟨b, off, rfl, hbb, c0, c1, c2, c3⟩ := HA.out.on hb2 i hi
        clear hb2 HF
        go_wp2_with (go_at_call 18; refine (HD.out _).mono ?_; rintro e w9 ⟨rfl, rfl⟩)
        refine (HW.out _ (HB2.out.alloc HB2.out.size _)).mono ?_
        rintro e w3 ⟨⟨a', c', rfl, hc', hI⟩, hb3⟩
        have HI := Lib.hid hI
        have HC := Lib.hid hc'
        have HB3 := Lib.hid ((HB2.out.alloc HB2.out.size _).trans (hb3.mono (by have := HB2.out.size; simp; omega)))
        clear hI hb3 hc'
        go_wp2
        go_returns
        exact ⟨.inr ⟨by simp [lkE, hd], i, a', c', rfl, hi, rfl, HC.out, HI.out⟩, HB3.out⟩
    · rw [decide_eq_false hd] at HD
      clear hA h1 h2 hb
      cases ho : fdN gm n m with
      | none =>
        rw [ho] at HF
        clear ho
        go_enter Tryd.func10, Tryd.ntmps10
        go_wp2_with fail
        refine HF.out.mono ?_
        rintro e w2 ⟨rfl, hb2⟩
        have HB2 := Lib.hid hb2
        clear hb2 HF
        go_wp2_with (go_at_call 18; refine (HD.out _).mono ?_; rintro e w9 ⟨rfl, rfl⟩)
        go_returns
        exact ⟨.inl ⟨by simp [lkE, hd], by simp [lkE, hd]⟩, HB2.out⟩
      | some i =>
        rw [ho] at HF
        clear ho
        go_enter Tryd.func10, Tryd.ntmps10
        go_wp2_with fail
        refine HF.out.mono ?_
        rintro e w2 ⟨rfl, hb2⟩
        have HB2 := Lib.hid hb2
        clear hb2 HF
        go_wp2_with (go_at_call 18; refine (HD.out _).mono ?_; rintro e w9 ⟨rfl, rfl⟩)
        go_returns
        exact ⟨.inl ⟨by simp [lkE, hd], by simp [lkE, hd]⟩, HB2.out⟩
end
/-- The cells of items that follow one another from the first. -/
theorem itAt_set {W : World} {g n i : Nat} {gm : Nat → List UInt8} {gl gd : Nat → Int} {gb : Nat → List UInt8} (h : ItAt W (some ⟨g, 0, none⟩) n gm gl gd gb) (hi : i < n) (d : Int) : ItAt (W.setCell ⟨g, i * 4 + 2, none⟩ (.int .i64 d)) (some ⟨g, 0, none⟩) n gm gl (updF gd i d) gb := fun k hk => by
  obtain ⟨b, off, e, h1, c0, c1, c2, c3⟩ := h k hk
  cases e
  have far : ∀ c, k * 4 + c ≠ i * 4 + 2 → (W.setCell ⟨g, i * 4 + 2, none⟩ (.int .i64 d)).cell? ⟨g, 0 + k * 4 + c, none⟩ = W.cell? ⟨g, 0 + k * 4 + c, none⟩ := fun c hc => World.cell?_setCell_other _ _ _ _ (fun q => hc (by have q2 : i * 4 + 2 = 0 + k * 4 + c := congrArg Addr.off q; omega))
  refine ⟨g, 0, rfl, by simpa using h1, (far 0 (by omega)).trans c0, (far 1 (by omega)).trans c1, ?_, (far 3 (by omega)).trans c3⟩
  unfold updF
  by_cases hki : k = i
  · subst hki
    rw [if_pos rfl, Nat.zero_add]
    rw [Nat.zero_add] at c2
    exact World.cell?_setCell_same W ⟨g, k * 4 + 2, none⟩ _ c2
  · rw [if_neg hki]
    exact (far 2 (by omega)).trans c2
theorem itAt_cells {W : World} {b off n : Nat} {gm : Nat → List UInt8} {gl gd : Nat → Int} {gb : Nat → List UInt8} (h : ItAt W (some ⟨b, off, none⟩) n gm gl gd gb) : ∀ j u, (itc gm gl gd gb (fun t => t) n)[j]? = some u → W.cell? ((⟨b, off, none⟩ : Addr).add j) = some u := fun j u hu => by
  have e0 : itc gm gl gd gb (fun t => 0 + t) n = itc gm gl gd gb (fun t => t) n := itc_congr n (fun t _ => by simp)
  exact itc_at0 h (Nat.le_refl n) ⟨b, off, none⟩ rfl j u (by rw [e0]; exact hu)
section
variable (a : Option Addr) (n cap : Nat) (gm : Nat → List UInt8) (gl gd : Nat → Int) (gb : Nat → List UInt8) (w : World) (hA : ItAt w a n gm gl gd gb) (hn : n ≤ 1000) (h1 : Sht n gm) (h2 : Sht n gb)
include hA hn h1 h2
end
end Go.Proofs.YteojmhfocdlnoaaDoor.Tr
