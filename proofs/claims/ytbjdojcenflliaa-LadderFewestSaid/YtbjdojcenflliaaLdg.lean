/- lists, rests: the iterators made. -/
import Derived.Test.YtbjdojcenflliaaLdv
import Derived.Test.YtbjdojcenflliaaLdf
import Derived.Deep.RegionHeld3
import Derived.Deep.RegionLaw
namespace Go.Proofs.Ytbjdojcenflliaa
open Go.RowKit Go.Shelf Go.Maps
attribute [local go_sem] Oper.semAt_some

theorem lists_mk (a : Option Addr) (n cap B : Nat) (fi st la fr ht k : Int) (w : World) :
    Calls Try.prog 73 #[.agg #[.slice a n cap, .int .i64 fi, .int .i64 st, .int .i64 la], .map (some B), .int .i64 fr, .int .i64 ht, .int .i64 k] w fun e w' => e = .returned (.func (.func 79) #[] #[.pointer (some ⟨w.heap.size, 0, none⟩), .pointer (some ⟨w.heap.size + 1 + 1, 0, none⟩), .pointer (some ⟨w.heap.size + 1 + 1 + 1, 0, none⟩), .pointer (some ⟨w.heap.size + 1, 0, none⟩), .pointer (some ⟨w.heap.size + 1 + 1 + 1 + 1, 0, none⟩)]) ∧
      ((((w.alloc (.cells #[.slice a n cap, .int .i64 fi, .int .i64 st, .int .i64 la] 60)).alloc (.cells #[.map (some B)] 81)).alloc (.cells #[.int .i64 fr] 3)).alloc (.cells #[.int .i64 ht] 3)).alloc (.cells #[.int .i64 k] 3) = w' := by
  go_enter Try.func73, Try.ntmps73
  go_wp2
  go_ret
  exact ⟨rfl, rfl⟩
theorem rests_0 (a : Option Addr) (n cap B : Nat) (fi st la i : Int) (w : World) :
    Calls Try.prog 80 #[.agg #[.slice a n cap, .int .i64 fi, .int .i64 st, .int .i64 la], .map (some B), .int .i64 i, .int .i64 0] w fun e w' => (∃ Bx b, e = .returned (.func (.func 84) #[] #[.pointer (some ⟨Bx, 0, none⟩)]) ∧ w'.cell? ⟨Bx, 0, none⟩ = some (.slice (some ⟨b, 0, none⟩) 1 1) ∧ w'.cell? ⟨b, 0, none⟩ = some (.slice none 0 0)) ∧ Below w.heap.size w w' := by
  have HV := Lib.hid (fun b W => values_any (some ⟨b, 0, none⟩) 1 1 W)
  go_enter Try.func80, Try.ntmps80
  go_wp2_with (go_at_call 83; refine (HV.out _ _).mono ?_; rintro e w2 ⟨rfl, rfl⟩)
  go_ret
  refine ⟨⟨w.heap.size + 1 + 1, w.heap.size + 1, rfl, by simp [go_sem], by simp [go_sem]⟩, ?_⟩
  (repeat' (first | (with_reducible exact Below.refl _ _) | (with_reducible assumption) | (with_reducible refine Below.alloc ?_ ?_ _) | (with_reducible refine Below.drew ?_) | (with_reducible refine below_drewN ?_ _) | (with_reducible refine Below.setCell ?_ ?_ _) | (with_reducible refine below_after ?_ ?_ _) | (with_reducible refine below_set ?_) | (with_reducible refine After.size_le _ ?_) | (with_reducible refine size_alloc_le ?_) | (with_reducible refine size_set_le ?_) | (with_reducible refine size_drewN_le ?_) | go_size))
theorem rests_s (a : Option Addr) (n cap : Nat) (hg : Nat → Int) (us : Nat → Bool) (B : Nat) (fi st la : Int) (i k : Nat) (w : World) (hA : JtAt w a n hg us) (hi : i < n) (hn : n ≤ 1000) (h1 : -1000000 ≤ hg i ∧ hg i ≤ 1000000) (h2 : -1000000 ≤ st ∧ st ≤ 1000000) :
    Calls Try.prog 80 #[.agg #[.slice a n cap, .int .i64 fi, .int .i64 st, .int .i64 la], .map (some B), .int .i64 (i : Nat), .int .i64 ((k : Int) + 1)] w fun e w' => (∃ S, w.heap.size ≤ S ∧ S + 5 ≤ w'.heap.size ∧ e = .returned (.func (.func 79) #[] #[.pointer (some ⟨S, 0, none⟩), .pointer (some ⟨S + 1 + 1, 0, none⟩), .pointer (some ⟨S + 1 + 1 + 1, 0, none⟩), .pointer (some ⟨S + 1, 0, none⟩), .pointer (some ⟨S + 1 + 1 + 1 + 1, 0, none⟩)]) ∧
      RtB w' S (.slice a n cap) fi st la ∧ w'.cell? ⟨S + 1 + 1, 0, none⟩ = some (.int .i64 ((i : Int) + 1)) ∧ w'.cell? ⟨S + 1 + 1 + 1, 0, none⟩ = some (.int .i64 (hg i + st)) ∧ w'.cell? ⟨S + 1, 0, none⟩ = some (.map (some B)) ∧ w'.cell? ⟨S + 1 + 1 + 1 + 1, 0, none⟩ = some (.int .i64 ((k : Int) + 1))) ∧ Below w.heap.size w w' := by
  have HA := Lib.hid hA
  have HL := Lib.hid (fun fr ht kk W => lists_mk a n cap B fi st la fr ht kk W)
  have HR := Lib.hid (fun W (h : JtAt W a n hg us) => reachFrom_any a n cap hg us fi st la i W h hi h1 h2)
  have hkk : ¬ ((k : Int) + 1 = 0) := by omega
  clear hA
  go_enter Try.func80, Try.ntmps80
  go_wp2
  obtain ⟨W0, hW0⟩ : ∃ W0, w.alloc (.cells #[.slice a n cap, .int .i64 fi, .int .i64 st, .int .i64 la] 60) = W0 := ⟨_, rfl⟩
  have b0 : Below w.heap.size w W0 := by rw [← hW0]; (repeat' (first | (with_reducible exact Below.refl _ _) | (with_reducible assumption) | (with_reducible refine Below.alloc ?_ ?_ _) | (with_reducible refine Below.drew ?_) | (with_reducible refine below_drewN ?_ _) | (with_reducible refine Below.setCell ?_ ?_ _) | (with_reducible refine below_after ?_ ?_ _) | (with_reducible refine below_set ?_) | (with_reducible refine After.size_le _ ?_) | (with_reducible refine size_alloc_le ?_) | (with_reducible refine size_set_le ?_) | (with_reducible refine size_drewN_le ?_) | go_size))
  have er := rtB_new w 60 (.slice a n cap) fi st la
  rw [hW0] at er
  rw [hW0]
  have q0 := er.g0
  have q1 := er.g1
  have q2 := er.g2
  have q3 := er.g3
  have fd : Fr (fun _ => False) W0 W0.drew := (Fr.refl W0).drew
  have HAD := Lib.hid ((HA.out.on b0).fr fd (fun _ _ _ _ => id))
  have HB0 := Lib.hid (b0.trans (fd.below b0.size (fun _ _ h => h)))
  have hiI : (i : Int) ≤ 1000 := by omega
  have HJ : Hid (∀ w1, Below W0.drew.heap.size W0.drew w1 → w1.cell? ⟨w.heap.size, 0, none⟩ = some (.slice a n cap) ∧ w1.cell? ⟨w.heap.size, 1, none⟩ = some (.int .i64 fi) ∧ w1.cell? ⟨w.heap.size, 2, none⟩ = some (.int .i64 st) ∧ w1.cell? ⟨w.heap.size, 3, none⟩ = some (.int .i64 la)) := Lib.hid fun w1 hw1 => by
    have f := fd.call hw1
    exact ⟨f.cell (p := ⟨w.heap.size, 0, none⟩) id q0, f.cell (p := ⟨w.heap.size, 1, none⟩) id q1, f.cell (p := ⟨w.heap.size, 2, none⟩) id q2, f.cell (p := ⟨w.heap.size, 3, none⟩) id q3⟩
  have HR1 := Lib.hid (HR.out _ HAD.out)
  clear er hW0 b0 HA HR HAD h1 h2 fd
  go_region_held3 (fun w' => w'.cell? ⟨w.heap.size, 0, none⟩ = some (.slice a n cap) ∧ w'.cell? ⟨w.heap.size, 1, none⟩ = some (.int .i64 fi) ∧ w'.cell? ⟨w.heap.size, 2, none⟩ = some (.int .i64 st) ∧ w'.cell? ⟨w.heap.size, 3, none⟩ = some (.int .i64 la))
    (first
      | go_keep
      | exact HJ.out _ (by assumption)
      | exact HJ.out _ (by first | exact (((((hw1.alloc hw1.size _).alloc (by simp; omega) _).alloc (by simp; omega) _).alloc (by simp; omega) _).alloc (by simp; omega) _)))
    ((first
      | (go_at_call 70; refine HR1.out.mono ?_; rintro e w1 ⟨rfl, hw1⟩; have hs1 : W0.heap.size ≤ w1.heap.size := hw1.size)
      | (go_at_call 73; refine (HL.out _ _ _ _).mono ?_; rintro e w2 ⟨rfl, rfl⟩)))
  have HB1 := Lib.hid (HB0.out.trans (hw1.mono HB0.out.size))
  have hws : w.heap.size ≤ w1.heap.size := HB1.out.size
  have hwr : IntKind.i64.wrap ((i : Int) + 1) = (i : Int) + 1 := IntWalk.i64_in _ ⟨by omega, by omega⟩
  clear hw1 HJ HR1 HL HB0 q0 q1 q2 q3
  go_wp2
  go_ret
  refine ⟨⟨w1.heap.size, hws, by simp, rfl, ?_, by simp [go_sem, hwr], by simp [go_sem], by simp [go_sem], by simp [go_sem]⟩, ?_⟩
  · refine ⟨by simp; omega, by simp [go_sem], by simp [go_sem], by simp [go_sem], by simp [go_sem], fun o => by simp [go_sem]⟩
  · exact ((((HB1.out.alloc hws _).alloc (by simp; omega) _).alloc (by simp; omega) _).alloc (by simp; omega) _).alloc (by simp; omega) _
end Go.Proofs.Ytbjdojcenflliaa
