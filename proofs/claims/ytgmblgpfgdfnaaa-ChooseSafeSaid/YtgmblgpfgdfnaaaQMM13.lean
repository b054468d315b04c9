/- Quorums: the chapter's examples; the law QuorumSizes. -/
import Derived.Test.YtgmblgpfgdfnaaaQMM5
import Derived.Test.YtgmblgpfgdfnaaaQMM12
namespace Go.Proofs.Ytgmblgpfgdfnaaa
open Go.RowKit
set_option linter.unusedVariables false
set_option linter.unusedSimpArgs false
theorem fN_range (n : Int) : 0 ≤ fN n ∧ fN n ≤ 5 := by have := fN_cases n; omega
end Go.Proofs.Ytgmblgpfgdfnaaa
