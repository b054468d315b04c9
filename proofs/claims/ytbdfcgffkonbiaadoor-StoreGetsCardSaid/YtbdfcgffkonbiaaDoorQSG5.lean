/- A text among the arguments. -/
import Derived.Test.YtbdfcgffkonbiaaDoorQST19
import Derived.Lib.SmallJoins
import Derived.ProofKit
import Derived.OpenShut
import Derived.SliceStrings
import Derived.ChangeOld
namespace Go.Proofs.YtbdfcgffkonbiaaDoor
open Go.ChangeMaps (open_string)
open Go Go.ChangeShapes Go.WideShapes Go.ChangeAt Go.RowKit Go.Joins
set_option linter.unusedVariables false
set_option maxRecDepth 100000
section
variable {H : Type} {enc : TypeId × Value → H}
theorem open_text13 {W : World} {r : Reach} {base b0 : Nat} {sp : Nat → Bool} {hd : Bool} {v : Value} {d : DataW H} {p : List MemPlace}
    (hval : Value.okWide Tryd.prog W r b0 9 v) (h : DataW.Trod enc Tryd.prog W base sp hd 9 v d p) : ∃ s : List UInt8, v = .string (str s) ∧ s.length ≤ maxLen := by
  obtain ⟨a, rfl, _, _, w⟩ := open_string Tryd.underlying9 hval h
  exact ⟨a.data.toList, by rw [str_of], by rw [Array.length_toList]; exact w⟩
end
end Go.Proofs.YtbdfcgffkonbiaaDoor
