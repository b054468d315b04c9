/- A region whose order is open, its last operation a store, inside a fence and inside a round; an append in such a region. It speaks of no program in particular. -/
import Derived.Test.YtgmblgpfgdfnaaaQMM39
import Derived.Test.YtgmblgpfgdfnaaaQMM41
import Derived.Maps.AppendAt
namespace Go.Proofs.Ytgmblgpfgdfnaaa
open Go.RowKit
set_option linter.unusedVariables false
section
variable {P : Program} {ops : Array Oper} {Q : Exit → Act → World → Prop} {n : Nat} {ro : Option Nat}
theorem j_start {id m : Nat} {a : Act} {w : World} (n : Nat) (S : World → Prop) (hno : ¬ LetsOut Q) (hnd : ops.all noDefer = true) (hm : P.follows .mixedOrders = true) (h : wpV P ops n S Q ops.size (Array.replicate ops.size false) a w.drew) :
    (Code.region id ops true).wpIn (wideR ro) m P Q a w := by
  refine wpIn_region_any hm (wpAnyIn_of_any hno hnd _ _ _ _ (orders_any (n := n) (S := S) _ _ _ _ (h ⟨by simp, ?_, ?_⟩)))
  · intro j oj _ hl
    rw [getD_replicate_false] at hl
    cases hl
  · intro t ht hlt
    simp [hlt]
/-- An append, alone. -/
theorem op_append {o : Oper} {a : Act} {w : World} {K : Act → World → Prop} (s x : Operand) (t ty : TypeId) (hop : o.op = Op.call { callee := Callee.builtin Builtin.append, args := #[s, x], argTypes := #[t, t] }) (hty : o.type = ty)
    (v u v' : Value) (w' : World) (hs : a.eval s = v) (hx : a.eval x = u) (hrun : (Builtin.append_ #[t, t] ty #[v, u]).run P w = .ok v' w') (hK : K (a.put o.dst v') w') : o.wp P a w K Q := by
  subst hty
  unfold Oper.wp
  simp [execOp, hop, resolve, invoke, builtin, hs, hx, hrun, Result.andThen]
  exact hK
end
end Go.Proofs.Ytgmblgpfgdfnaaa
