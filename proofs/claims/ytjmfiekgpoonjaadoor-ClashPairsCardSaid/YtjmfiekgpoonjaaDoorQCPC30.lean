/- A region whose order is open and that ends in a chain of stores: behind operation number n nothing is asked of the world. -/
import Derived.Test.YtjmfiekgpoonjaaDoorQCPC18
namespace Go.Proofs.YtjmfiekgpoonjaaDoor
open Go.RowKit
set_option linter.unusedVariables false
section
variable {P : Program} {ops : Array Oper} {Q : Exit → Act → World → Prop} {n : Nat}
/-- What is left of the region, whatever was asked of the world ahead. -/
def wpO (P : Program) (ops : Array Oper) (n : Nat) (Q : Exit → Act → World → Prop) (f : Nat) (l : Array Bool) (a : Act) (w : World) : Prop :=
  ∀ S : World → Prop, orders P .any ops n Q S f l a w
theorem t_tail {i : Nat} {oi : Oper} {f : Nat} {l : Array Bool} {a : Act} {w : World} (hi : ops[i]? = some oi) (hr : Region.ready .any ops l = [i]) (hin : decide (n ≤ i) = true) (hw : Region.wanted oi (yielded ops a.tmps) = true)
    (h : ∀ K : Act → World → Prop, (∀ a' w', wpO P ops n Q f (l.setIfInBounds i true) a' w' → K a' w') → oi.wp P a w K Q) : wpO P ops n Q (f + 1) l a w := by
  intro S
  refine ⟨fun e => (by rw [hr] at e; cases e), ?_⟩
  intro j hj
  rw [hr, List.mem_singleton] at hj
  subst hj
  unfold wpOp
  simp only [hi, hw, if_true]
  exact .inl (h _ fun a' w' k => ⟨fun hlt => absurd hlt (Nat.not_lt_of_le (of_decide_eq_true hin)), k S⟩)
theorem t_into {f : Nat} {l : Array Bool} {a : Act} {w : World} (h : wpO P ops n Q f l a w) : wpT P ops n Q f l a w := fun _ => h _
theorem t_over {f : Nat} {l : Array Bool} {a : Act} {w : World} (hr : Region.ready .any ops l = []) (h : Q .normal a w) : wpO P ops n Q f l a w := by
  intro S
  cases f with
  | zero => exact ⟨hr, h⟩
  | succ f => exact ⟨fun _ => h, by rw [hr]; simp⟩
end
end Go.Proofs.YtjmfiekgpoonjaaDoor
