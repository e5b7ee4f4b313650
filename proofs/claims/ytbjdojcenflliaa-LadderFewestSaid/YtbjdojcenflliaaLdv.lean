/- slices.Values over lists: its contract up to its first round. -/
import Derived.Test.YtbjdojcenflliaaLdx
import Derived.Test.YtbjdojcenflliaaLdu
namespace Go.Proofs.Ytbjdojcenflliaa
open Go.RowKit Go.Shelf
attribute [local go_sem] Oper.semAt_some

theorem values_any (a : Option Addr) (n cap : Nat) (w : World) :
    Calls Try.prog 83 #[.slice a n cap] w fun e w' => e = .returned (.func (.func 84) #[] #[.pointer (some ⟨w.heap.size, 0, none⟩)]) ∧ w.alloc (.cells #[.slice a n cap] 88) = w' := by
  go_enter Try.func83, Try.ntmps83
  go_wp2
  go_ret
  exact ⟨rfl, rfl⟩
set_option maxRecDepth 100000 in
set_option maxHeartbeats 4000000 in
theorem values1_x (q : Nat) (Bx b off cap : Nat) (va : Option Addr) (vn vc : Nat) (M : Nat → Prop) (Y : World → Prop) (w : World) (hY0 : BidesN (β := Unit) w.heap.size (fun _ W => Y W)) (hYw : Y w)
    (hx : w.cell? ⟨Bx, 0, none⟩ = some (.slice (some ⟨b, off, none⟩) 1 cap)) (hc : w.cell? ⟨b, off, none⟩ = some (.slice va vn vc)) :
    SeqX Fence.wide q Try.prog 84 #[.pointer (some ⟨Bx, 0, none⟩)] (fun x : Value => #[x]) M (fun x W => x = .slice va vn vc ∧ Y W) w := by
  intro l J Jx W hW hl0 hl hJ hJx hY h0
  have hf0 : Fr (fun _ => False) w W := (Fr.refl w).call hW
  have hx := hf0.cell (p := ⟨Bx, 0, none⟩) id hx
  have hc := hf0.cell (p := ⟨b, off, none⟩) id hc
  have hYW := hY0 () _ _ hYw (hf0.mono fun _ _ h => h.elim)
  refine callsIn_of_wp Try.func84 rfl trivial ?_ rfl
  simp only [Try.ntmps84, List.size_toArray, List.length_cons, List.length_nil, Nat.reduceAdd, Nat.reduceSub, Array.replicate_succ, Array.replicate_zero, List.push_toArray, List.append_toArray, List.nil_append, List.cons_append]
  obtain ⟨fn, tmps, assign, body, hy, hR⟩ := hY (.slice va vn vc) W ⟨rfl, hYW⟩ h0 (Nat.le_refl _)
  have HR := Lib.hid hR
  clear hY hJ hJx hW hR hYW hY0 hYw h0 hf0
  gi_wp2
  gi_loopw [7] (fun i wr => i = .int .i64 0 ∧ wr = W) (fun _ _ => 0)
  case atStart => exact ⟨rfl, rfl⟩
  case round =>
    obtain ⟨rfl, rfl⟩ := hrel
    gi_wp2
    refine ⟨fun h => (by cases h), HR.out.mono ?_⟩
    rintro e W3 ⟨hf, rfl, hjx⟩
    have HJx := Lib.hid hjx
    clear hf hjx
    gi_wp2
    first
      | (go_end0; exact ⟨⟨_, rfl⟩, HJx.out⟩)
      | (refine bodyPost_ret (results_none rfl _ _ _) rfl ?_; exact ⟨⟨_, rfl⟩, HJx.out⟩)
end Go.Proofs.Ytbjdojcenflliaa
