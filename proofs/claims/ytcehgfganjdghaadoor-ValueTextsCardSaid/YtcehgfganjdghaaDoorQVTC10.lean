/- Values: which is ahead. Written by wip/tools/gen7e.py. -/
import Derived.Test.YtcehgfganjdghaaDoorQVTC9
namespace Go.Proofs.YtcehgfganjdghaaDoor.V7
open Go.RowKit
set_option linter.unusedVariables false
set_option linter.unusedSimpArgs false
theorem cells3 {w : World} {B : Nat} {a0 a1 a2 : Value} {t : TypeId} (h : w.heap[B]? = some (.cells #[a0, a1, a2] t (0, 0))) :
    w.cell? ⟨B, 0, none⟩ = some a0 ∧ w.cell? ⟨B, 1, none⟩ = some a1 ∧ w.cell? ⟨B, 2, none⟩ = some a2 := by
  refine ⟨?_, ?_, ?_⟩
  all_goals simp [World.cell?, h]
def lessB (a b : V) : Bool := mayB a && mayB b && decide (ordV a b < 0)
end Go.Proofs.YtcehgfganjdghaaDoor.V7
