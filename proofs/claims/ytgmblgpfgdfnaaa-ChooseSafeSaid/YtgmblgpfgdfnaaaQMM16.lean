/- Quorums: the set of a list; the document's list of a set. -/
import Derived.Test.YtgmblgpfgdfnaaaQMM14
import Derived.Test.YtgmblgpfgdfnaaaQMM15
namespace Go.Proofs.Ytgmblgpfgdfnaaa
open Go.RowKit
set_option linter.unusedVariables false
set_option linter.unusedSimpArgs false
def iz (n : Int) : Value := .int .i64 n
end Go.Proofs.Ytgmblgpfgdfnaaa
