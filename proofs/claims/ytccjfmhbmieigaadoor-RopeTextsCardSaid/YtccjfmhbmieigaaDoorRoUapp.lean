/- A list of uses copied onto an empty slice of one's own, and a further use behind it. -/
import Derived.Test.YtccjfmhbmieigaaDoorRoWorn
import Derived.Test.YtccjfmhbmieigaaDoorRoPcopy
import Derived.Laws.AppendOwnNone
namespace Go.Proofs.YtccjfmhbmieigaaDoor.Ro
open Go.Proofs.YtccjfmhbmieigaaDoor
open Go.RowKit

theorem prc_own {W : World} {base : Nat} {t : TypeId} {v : Value} {ps : List (Int × Int)} (h : W.ownsRow base t 2 v ps.length (pcv ps)) (hn : 1 ≤ ps.length) : Prc W W.heap.size v ps := by
  obtain ⟨g, cap, rfl⟩ := Go.Joins.ownsRow_form h hn
  refine .inr (.inr ⟨g, 0, cap, rfl, hn, ?_, ?_, (h.lt g rfl).2, fun i hi => ?_⟩)
  · rcases h.2 with ⟨e, _⟩ | ⟨g', cap', _, e, _, _, h1, _⟩
    · cases e
    · cases e; exact h1
  · rcases h.2 with ⟨e, _⟩ | ⟨g', cap', _, e, _, _, _, h1, _⟩
    · cases e
    · cases e; unfold maxLen at h1; exact h1
  · rw [Nat.zero_add, h.cellAt _ (by omega), h.cellAt _ (by omega)]
    exact pcv_get hi

/-- 'append(own, u...)' for whatever slice of uses. -/
theorem append_prc {P : Program} {w : World} {ops : Array Oper} {rest : List Oper} {o : Oper} {a : Act} {Q : Exit → Act → World → Prop} (hgd : o.guard = none) (s x : Operand) (t : TypeId)
    (ho : o.op = .call { callee := .builtin .append, args := #[s, x], argTypes := #[t, t] })
    (base : Nat) (e : TypeId) (i : TypeInfo) (z : Value) (ht : P.underlying t = some (.slice e)) (hi : P.info? e = some i) (hz : i.zero = some z)
    (hsize : i.size = 2) (hby : i.bytes = 16) (hzs : z.cells.size = 2)
    (vl : Value) (hs : a.eval s = vl) (hown : w.ownsRow base e 2 vl 0 []) (v : Value) (hx : a.eval x = v) (ps : List (Int × Int)) (hp : Prc w w.heap.size v ps) (hl : ps.length ≤ 1000) (hbase : base ≤ w.heap.size)
    (h : ∀ v' w', w'.ownsRow base e 2 v' ps.length (pcv ps) → w.grownBy w' vl.ownBlock → wpList P ops Q rest (a.put o.dst v') w') : wpList P ops Q (o :: rest) a w := by
  rcases hp with ⟨rfl, rfl⟩ | ⟨p, cap, rfl, _, rfl⟩ | ⟨b, off, cap, rfl, h0, h1, h2, hb, hc⟩
  · exact wpList_append_own_none hgd s x t ho base e i 2 ht hi vl 0 [] hs hown hx (h vl w hown ⟨rfl, rfl, rfl, Nat.le_refl _, fun _ _ _ => rfl⟩)
  · exact wpList_append_own w hgd s x t ho base e i z 2 16 ht hi hz hsize hby hzs (by omega) vl 0 [] hs hown p 0 cap [] hx rfl (fun j u hu => by simp at hu) (fun u hu => by simp at hu) (by unfold maxLen; omega) (by omega) hbase
      (fun v' w' h3 h4 _ => h v' w' (by simpa [pcv] using h3) h4)
  · exact wpList_append_own w hgd s x t ho base e i z 2 16 ht hi hz hsize hby hzs (by omega) vl 0 [] hs hown ⟨b, off, none⟩ ps.length cap (pcv ps) hx (pcv_len ps) (pcv_cells hc) (pcv_one ps) (by unfold maxLen; omega) (by omega) hbase
      (fun v' w' h3 h4 _ => h v' w' (by simpa using h3) h4)
end Go.Proofs.YtccjfmhbmieigaaDoor.Ro
