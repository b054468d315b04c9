/-
  No cell of these rows narrows 'for every input' (looked for: loops, veiled, ifaces, maps, wideKeys, modest, calm, conditions, laid).
  DERIVED. THE GIVEN ROWS OF THIS SEAT. 4 by the template 'for every input the law returns true; each argument reads behind the call as it read before'; 0 by the template 'total and deterministic' (their statements: YtgmblgpfgdfnaaaTotals.lean).
  GIVEN WITH THE SEED: the statements are not yours to turn. If you find one false, say at which input.
  Laid BY PROGRAM, IN A SANDBOX (cutbox-rows.mjs): the forced cells as the released guide's own fill.sh prints them over the translation 1e780e816bc830a4… (all of the seat's roots in one cut). By AI agents, Wed Nov 11 2026. No macro, syntax, notation, axiom, sorry.
-/
import Derived.Test.YtgmblgpfgdfnaaaChecked
import GoSem.Claim
import GoSem.ClaimJoined
import GoSem.ClaimMapViews
import Derived.JoinedTies
import Derived.KernelRfl
namespace Go.Proofs.Ytgmblgpfgdfnaaa
/- THE CELL 'sum', in the pinned program and in every row, IS THE sha256 OF THE DUMP (.gsa) THAT YtgmblgpfgdfnaaaProg.lean LOADS. Nothing in Lean hashes anything: it is a label: what it is worth is what the hold of that sum in a sandbox is worth. -/
noncomputable def Try.pinned : Pinned := { name := "ytgmblgpfgdfnaaa", sum := "1e780e816bc830a4af0e0e531708a9c8cc34d054d68fd310a7f9e3bd85d63356", checked := Try.checked }
namespace Rows
def none {H : Type} : Left H := { results := [], args := [] }

/-- 'plenumlaw30.MarksTell': WHATEVER THE INPUT: true; the input reads as it did. -/
def marksTellSpec : ChangeSpec := { name := "marksTell", fn := fun _ => fun
  | [d1, d2, d3] => { results := [.lit (.bool true)], args := [d1, d2, d3] }
  | _ => none }
def marksTellRow : OpenClaim := { program := "ytgmblgpfgdfnaaa", sum := "1e780e816bc830a4af0e0e531708a9c8cc34d054d68fd310a7f9e3bd85d63356", func := "plenum/plenumlaw30.MarksTell", spec := "marksTell", unfollowed := true, recurses := true, apart := false }
def MarksTellSaid : Prop := marksTellRow.holds Try.pinned (OpenSpec.ofChange marksTellSpec)

/-- ITS FALSE NEIGHBOUR: 'it returns false'. Refute it at one input. -/
def marksTellWrong : ChangeSpec := { name := "marksTell", fn := fun _ => fun
  | [d1, d2, d3] => { results := [.lit (.bool false)], args := [d1, d2, d3] }
  | _ => none }
def MarksTellWrongFalsely : Prop := marksTellRow.holds Try.pinned (OpenSpec.ofChange marksTellWrong)

/-- 'plenumlaw30.MarksMove': WHATEVER THE INPUT: true; the input reads as it did. -/
def marksMoveSpec : ChangeSpec := { name := "marksMove", fn := fun _ => fun
  | [d1, d2, d3] => { results := [.lit (.bool true)], args := [d1, d2, d3] }
  | _ => none }
def marksMoveRow : OpenClaim := { program := "ytgmblgpfgdfnaaa", sum := "1e780e816bc830a4af0e0e531708a9c8cc34d054d68fd310a7f9e3bd85d63356", func := "plenum/plenumlaw30.MarksMove", spec := "marksMove", unfollowed := true, recurses := true, apart := false }
def MarksMoveSaid : Prop := marksMoveRow.holds Try.pinned (OpenSpec.ofChange marksMoveSpec)

/-- ITS FALSE NEIGHBOUR: 'it returns false'. Refute it at one input. -/
def marksMoveWrong : ChangeSpec := { name := "marksMove", fn := fun _ => fun
  | [d1, d2, d3] => { results := [.lit (.bool false)], args := [d1, d2, d3] }
  | _ => none }
def MarksMoveWrongFalsely : Prop := marksMoveRow.holds Try.pinned (OpenSpec.ofChange marksMoveWrong)

/-- 'plenumlaw30.MarksKeep': WHATEVER THE INPUT: true; the input reads as it did. -/
def marksKeepSpec : ChangeSpec := { name := "marksKeep", fn := fun _ => fun
  | [d1, d2] => { results := [.lit (.bool true)], args := [d1, d2] }
  | _ => none }
def marksKeepRow : OpenClaim := { program := "ytgmblgpfgdfnaaa", sum := "1e780e816bc830a4af0e0e531708a9c8cc34d054d68fd310a7f9e3bd85d63356", func := "plenum/plenumlaw30.MarksKeep", spec := "marksKeep", unfollowed := true, recurses := true, apart := false }
def MarksKeepSaid : Prop := marksKeepRow.holds Try.pinned (OpenSpec.ofChange marksKeepSpec)

/-- ITS FALSE NEIGHBOUR: 'it returns false'. Refute it at one input. -/
def marksKeepWrong : ChangeSpec := { name := "marksKeep", fn := fun _ => fun
  | [d1, d2] => { results := [.lit (.bool false)], args := [d1, d2] }
  | _ => none }
def MarksKeepWrongFalsely : Prop := marksKeepRow.holds Try.pinned (OpenSpec.ofChange marksKeepWrong)

/-- 'plenumlaw31.ChooseSafe': WHATEVER THE INPUT: true; the input reads as it did. -/
def chooseSafeSpec : ChangeSpec := { name := "chooseSafe", fn := fun _ => fun
  | [d] => { results := [.lit (.bool true)], args := [d] }
  | _ => none }
def chooseSafeRow : OpenClaim := { program := "ytgmblgpfgdfnaaa", sum := "1e780e816bc830a4af0e0e531708a9c8cc34d054d68fd310a7f9e3bd85d63356", func := "plenum/plenumlaw31.ChooseSafe", spec := "chooseSafe", unfollowed := true, recurses := true, apart := false }
def ChooseSafeSaid : Prop := chooseSafeRow.holds Try.pinned (OpenSpec.ofChange chooseSafeSpec)

/-- ITS FALSE NEIGHBOUR: 'it returns false'. Refute it at one input. -/
def chooseSafeWrong : ChangeSpec := { name := "chooseSafe", fn := fun _ => fun
  | [d] => { results := [.lit (.bool false)], args := [d] }
  | _ => none }
def ChooseSafeWrongFalsely : Prop := chooseSafeRow.holds Try.pinned (OpenSpec.ofChange chooseSafeWrong)

/- THE SECOND FORM. 'bulk': how many values and letters a reading holds, each counted each time it is reached (what is shared counts as often as it is met; a slice's spare places count too). A statement '..UptoSaid' is the law's where the arguments, and the package variables that the reading takes, are together of bulk at most 1048576: NARROWER than '..Said'. Prove '..Said' where nothing that the law and all that it calls make is longer than what came in: it says more and counts as full. Else prove '..UptoSaid'. A law counts once. -/
mutual
def uptoBulk {H : Type} : DataW H → Nat
  | .lit (.string bytes) => bytes.length + 1
  | .lit _ => 1
  | .nil => 1
  | .ptr d => uptoBulk d + 1
  | .slice elems spare => uptoBulkAll elems + uptoBulkAll spare + 1
  | .agg parts => uptoBulkAll parts + 1
  | .iface _ d => uptoBulk d + 1
  | .map entries => uptoBulkEntries entries + 1
  | .held _ => 1
def uptoBulkAll {H : Type} : List (DataW H) → Nat
  | [] => 0
  | d :: r => uptoBulk d + uptoBulkAll r
def uptoBulkEntries {H : Type} : List (Lit × DataW H) → Nat
  | [] => 0
  | x :: r => uptoBulkEntry x + uptoBulkEntries r
def uptoBulkEntry {H : Type} : Lit × DataW H → Nat
  | (.string bytes, d) => bytes.length + uptoBulk d + 1
  | (_, d) => uptoBulk d + 1
 end
def uptoSmall : (H : Type) → List (DataW H) → Bool := fun _ ds => decide (uptoBulkAll ds ≤ 1048576)
def OpenSpec.upto (s : _root_.Go.ChangeSpec) : _root_.Go.OpenSpec := { _root_.Go.OpenSpec.ofChange s with cond := some uptoSmall }

/-- 'plenumlaw30.MarksTell', WHERE WHAT IT READS IS OF BULK AT MOST 1048576: true; the input reads as it did. -/
def marksTellUptoRow : OpenClaim := { program := "ytgmblgpfgdfnaaa", sum := "1e780e816bc830a4af0e0e531708a9c8cc34d054d68fd310a7f9e3bd85d63356", func := "plenum/plenumlaw30.MarksTell", spec := "marksTell", unfollowed := true, recurses := true, apart := false, narrowed := true }
def MarksTellUptoSaid : Prop := marksTellUptoRow.holds Try.pinned (OpenSpec.upto marksTellSpec)

/-- 'plenumlaw30.MarksMove', WHERE WHAT IT READS IS OF BULK AT MOST 1048576: true; the input reads as it did. -/
def marksMoveUptoRow : OpenClaim := { program := "ytgmblgpfgdfnaaa", sum := "1e780e816bc830a4af0e0e531708a9c8cc34d054d68fd310a7f9e3bd85d63356", func := "plenum/plenumlaw30.MarksMove", spec := "marksMove", unfollowed := true, recurses := true, apart := false, narrowed := true }
def MarksMoveUptoSaid : Prop := marksMoveUptoRow.holds Try.pinned (OpenSpec.upto marksMoveSpec)

/-- 'plenumlaw30.MarksKeep', WHERE WHAT IT READS IS OF BULK AT MOST 1048576: true; the input reads as it did. -/
def marksKeepUptoRow : OpenClaim := { program := "ytgmblgpfgdfnaaa", sum := "1e780e816bc830a4af0e0e531708a9c8cc34d054d68fd310a7f9e3bd85d63356", func := "plenum/plenumlaw30.MarksKeep", spec := "marksKeep", unfollowed := true, recurses := true, apart := false, narrowed := true }
def MarksKeepUptoSaid : Prop := marksKeepUptoRow.holds Try.pinned (OpenSpec.upto marksKeepSpec)

/-- 'plenumlaw31.ChooseSafe', WHERE WHAT IT READS IS OF BULK AT MOST 1048576: true; the input reads as it did. -/
def chooseSafeUptoRow : OpenClaim := { program := "ytgmblgpfgdfnaaa", sum := "1e780e816bc830a4af0e0e531708a9c8cc34d054d68fd310a7f9e3bd85d63356", func := "plenum/plenumlaw31.ChooseSafe", spec := "chooseSafe", unfollowed := true, recurses := true, apart := false, narrowed := true }
def ChooseSafeUptoSaid : Prop := chooseSafeUptoRow.holds Try.pinned (OpenSpec.upto chooseSafeSpec)

end Rows
end Go.Proofs.Ytgmblgpfgdfnaaa
