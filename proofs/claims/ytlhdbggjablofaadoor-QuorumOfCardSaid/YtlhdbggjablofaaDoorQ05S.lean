/- Quorums: the walks as the rows ask for them. -/
import Derived.Test.YtlhdbggjablofaaDoorQ05O
import Derived.Test.YtlhdbggjablofaaDoorQ05R
namespace Go.Proofs.YtlhdbggjablofaaDoor
open Go.RowKit
set_option linter.unusedVariables false
theorem sets_row (s n : Int) (w : World) (ws : (Lit.int .u64 s).wf = true) (wn : (Lit.int .i64 n).wf = true) (hT : TabAt w) :
    Calls Tryd.prog 4 #[.int .u64 s, .int .i64 n] w fun e w' => e = .returned (.bool true) ∧ Below w.heap.size w w' := by
  obtain ⟨m, rfl, hm⟩ := nat_of_wf ws
  exact sets_any m n w hm wn hT
theorem of_row (v : Value) (l : List Int) (w : World) (h : RdV w v (l.map (Value.int .i64))) (hT : TabAt w) :
    Calls Tryd.prog 5 #[v] w fun e w' => e = .returned (.bool true) ∧ Below w.heap.size w w' := quorumOf_any v l w h hT
end Go.Proofs.YtlhdbggjablofaaDoor
