/- Quorums: the list of a set. -/
import Derived.Test.YtgmblgpfgdfnaaaQMM11
namespace Go.Proofs.Ytgmblgpfgdfnaaa
open Go Go.RowKit
attribute [local go_sem] Oper.semAt_some
set_option linter.unusedVariables false
set_option linter.unusedSimpArgs false
def iv (n : Nat) : Value := .int .i64 (n : Int)
theorem intinfo : (Try.prog.info? 3).map (fun i => (i.zero, i.size, i.bytes)) = some (some (.int .i64 0), 1, 8) := by kernel_rfl
/-- What the loop of List keeps. -/
def InvL (n0 : Nat) (w : World) (pre : List Nat) (W : World) : Prop :=
  ((∃ v, Boxed W n0 91 v ∧ W.ownsRow n0 3 1 v pre.length (pre.map iv)) ∧ ∃ u, Boxed W (n0 + 1) 93 u) ∧ Below n0 w W
theorem InvL.from (n0 : Nat) (w : World) (B : Nat) (hB : n0 ≤ B) (hB' : n0 ≤ w.heap.size) : OwnFrom B (InvL n0 w) := by
  rintro s X Y row ⟨⟨⟨v, hv, hr⟩, u, hu⟩, hb⟩ hg hrow
  have nb : ∀ {C : Nat} {t : TypeId} {x : Value}, Boxed X C t x → some C ≠ row := by
    intro C t x hx e
    obtain ⟨_, o, ho, hc⟩ := hrow C e.symm
    rw [show X.heap[C]? = _ from hx] at ho; cases ho; cases hc
  refine ⟨⟨⟨v, hv.kept hg (nb hv), hr.kept hg ?_⟩, u, hu.kept hg (nb hu)⟩, hb.grown hg (Nat.le_trans hB' hb.size) fun j e => Nat.le_trans hB (hrow j e).1⟩
  rcases hr.2 with ⟨rfl, _⟩ | ⟨g, cap, cur, rfl, _, hgb, _⟩
  · exact .inl rfl
  · refine .inr fun e' => ?_
    obtain ⟨_, o, ho, hc⟩ := hrow g (by simpa [Value.ownBlock] using e'.symm)
    rw [hgb] at ho; cases ho; cases hc
theorem InvL.turn (n0 : Nat) (w : World) (s : List Nat) (X Y : World) (h : InvL n0 w s X) (t : TwB (n0 + 1) X Y) : InvL n0 w s Y := by
  obtain ⟨⟨⟨v, hv, hr⟩, u, hu⟩, hb⟩ := h
  obtain ⟨x, rfl⟩ := t
  have g := grownBy_setCell' X (n0 + 1) x
  exact ⟨⟨⟨v, hv.kept g (by simp), hr.kept g (.inr (hu.not_row (by decide) hr).symm)⟩, x, hu.set x⟩, hb.setCell (p := ⟨n0 + 1, 0, none⟩) (by simp) x⟩
theorem kpB_put {n0 : Nat} {w : World} (hw : n0 + 1 < w.heap.size) (W : World) (l : Nat) (o o' : Obj) (hl : w.heap.size ≤ l) (h : W.heap[l]? = some o) (_ : o.isCells = false) (_ : o.isWalk = false) : KpB (n0 + 1) W (W.putObj l o') := by
  refine ⟨?_, World.putObj_heap_other (by omega), World.putObj_heap_other (by omega)⟩
  exact (grownBy_putObj' W l o').size
end Go.Proofs.Ytgmblgpfgdfnaaa
