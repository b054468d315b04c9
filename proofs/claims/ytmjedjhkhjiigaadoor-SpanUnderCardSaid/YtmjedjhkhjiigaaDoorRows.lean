/-
  NARROWER THAN 'FOR EVERY INPUT', by the rows' own cells (each row's printed sentence says how): TrunkTells: laid · TrunkDoes: laid · TrunkReplaces: laid · TrunkKeeps: laid · SpanScans: laid · SpanEnds: laid · SpanUnder: laid · SpanParts: laid.
  DERIVED. THE GIVEN ROWS OF THIS SEAT. 8 by the template 'for every input the law returns true; each argument reads behind the call as it read before'; 0 by the template 'total and deterministic' (their statements: YtmjedjhkhjiigaaDoorTotals.lean).
  GIVEN WITH THE SEED: the statements are not yours to turn. If you find one false, say at which input.
  Laid BY PROGRAM, IN A SANDBOX (cutbox-rows.mjs): the forced cells as the released guide's own fill.sh prints them over the translation 8cd6adee40808437… (all of the seat's roots in one cut). By AI agents, Wed Nov 11 2026. No macro, syntax, notation, axiom, sorry.
-/
import Derived.Test.YtmjedjhkhjiigaaDoorChecked
import GoSem.Claim
import GoSem.ClaimJoined
import GoSem.ClaimMapViews
import Derived.JoinedTies
import Derived.KernelRfl
namespace Go.Proofs.YtmjedjhkhjiigaaDoor
/- THE CELL 'sum', in the pinned program and in every row, IS THE sha256 OF THE DUMP (.gsa) THAT YtmjedjhkhjiigaaDoorProg.lean LOADS. Nothing in Lean hashes anything: it is a label: what it is worth is what the hold of that sum in a sandbox is worth. -/
noncomputable def Tryd.pinned : Pinned := { name := "ytmjedjhkhjiigaadoor", sum := "8cd6adee4080843764c4dd1e90986721ebd00d4c2ee58e8b5222729b1b4bb059", checked := Tryd.checked }
namespace Rows
def none {H : Type} : Left H := { results := [], args := [] }

/- WHAT THE LISTED PACKAGE-LEVEL VARIABLES READ AS WHEN THE CALL BEGINS. Each datum BY PROGRAM (the guide's laid-datum.mjs) off the statement by which the dump's own 'gosem.cut.vars' lays the variable. In a bare row this is a premise. The card (YtmjedjhkhjiigaaDoorCards.lean) ties it to the program's text. -/
def laid_plenum_key_allowed {H : Type} : DataW H := .agg [.lit (.int .u64 288195191779622912), .lit (.int .u64 576460745860972544)]

/-- 'plenumlaw10.TrunkTells': WHATEVER THE INPUT: true; the input reads as it did. -/
def trunkTellsSpec : ChangeSpec := { name := "trunkTells", fn := fun _ => fun
  | [d1, d2] => { results := [.lit (.bool true)], args := [d1, d2] }
  | _ => none }
def trunkTellsRow : OpenClaim := { program := "ytmjedjhkhjiigaadoor", sum := "8cd6adee4080843764c4dd1e90986721ebd00d4c2ee58e8b5222729b1b4bb059", func := "plenum/plenumlaw10.TrunkTells", spec := "trunkTells", unfollowed := true, recurses := true, named := ["plenum/key.allowed"], apart := false, laid := [("plenum/key.allowed", laid_plenum_key_allowed)] }
def TrunkTellsSaid : Prop := trunkTellsRow.holds Tryd.pinned (OpenSpec.ofChange trunkTellsSpec)

/-- ITS FALSE NEIGHBOUR: 'it returns false'. Refute it at one input. -/
def trunkTellsWrong : ChangeSpec := { name := "trunkTells", fn := fun _ => fun
  | [d1, d2] => { results := [.lit (.bool false)], args := [d1, d2] }
  | _ => none }
def TrunkTellsWrongFalsely : Prop := trunkTellsRow.holds Tryd.pinned (OpenSpec.ofChange trunkTellsWrong)

/-- 'plenumlaw10.TrunkDoes': WHATEVER THE INPUT: true; the input reads as it did. -/
def trunkDoesSpec : ChangeSpec := { name := "trunkDoes", fn := fun _ => fun
  | [d1, d2, d3] => { results := [.lit (.bool true)], args := [d1, d2, d3] }
  | _ => none }
def trunkDoesRow : OpenClaim := { program := "ytmjedjhkhjiigaadoor", sum := "8cd6adee4080843764c4dd1e90986721ebd00d4c2ee58e8b5222729b1b4bb059", func := "plenum/plenumlaw10.TrunkDoes", spec := "trunkDoes", unfollowed := true, recurses := true, named := ["plenum/key.allowed"], apart := false, laid := [("plenum/key.allowed", laid_plenum_key_allowed)] }
def TrunkDoesSaid : Prop := trunkDoesRow.holds Tryd.pinned (OpenSpec.ofChange trunkDoesSpec)

/-- ITS FALSE NEIGHBOUR: 'it returns false'. Refute it at one input. -/
def trunkDoesWrong : ChangeSpec := { name := "trunkDoes", fn := fun _ => fun
  | [d1, d2, d3] => { results := [.lit (.bool false)], args := [d1, d2, d3] }
  | _ => none }
def TrunkDoesWrongFalsely : Prop := trunkDoesRow.holds Tryd.pinned (OpenSpec.ofChange trunkDoesWrong)

/-- 'plenumlaw10.TrunkReplaces': WHATEVER THE INPUT: true; the input reads as it did. -/
def trunkReplacesSpec : ChangeSpec := { name := "trunkReplaces", fn := fun _ => fun
  | [d] => { results := [.lit (.bool true)], args := [d] }
  | _ => none }
def trunkReplacesRow : OpenClaim := { program := "ytmjedjhkhjiigaadoor", sum := "8cd6adee4080843764c4dd1e90986721ebd00d4c2ee58e8b5222729b1b4bb059", func := "plenum/plenumlaw10.TrunkReplaces", spec := "trunkReplaces", unfollowed := true, recurses := true, named := ["plenum/key.allowed"], apart := false, laid := [("plenum/key.allowed", laid_plenum_key_allowed)] }
def TrunkReplacesSaid : Prop := trunkReplacesRow.holds Tryd.pinned (OpenSpec.ofChange trunkReplacesSpec)

/-- ITS FALSE NEIGHBOUR: 'it returns false'. Refute it at one input. -/
def trunkReplacesWrong : ChangeSpec := { name := "trunkReplaces", fn := fun _ => fun
  | [d] => { results := [.lit (.bool false)], args := [d] }
  | _ => none }
def TrunkReplacesWrongFalsely : Prop := trunkReplacesRow.holds Tryd.pinned (OpenSpec.ofChange trunkReplacesWrong)

/-- 'plenumlaw10.TrunkKeeps': WHATEVER THE INPUT: true; the input reads as it did. -/
def trunkKeepsSpec : ChangeSpec := { name := "trunkKeeps", fn := fun _ => fun
  | [d1, d2, d3] => { results := [.lit (.bool true)], args := [d1, d2, d3] }
  | _ => none }
def trunkKeepsRow : OpenClaim := { program := "ytmjedjhkhjiigaadoor", sum := "8cd6adee4080843764c4dd1e90986721ebd00d4c2ee58e8b5222729b1b4bb059", func := "plenum/plenumlaw10.TrunkKeeps", spec := "trunkKeeps", unfollowed := true, recurses := true, named := ["plenum/key.allowed"], apart := false, laid := [("plenum/key.allowed", laid_plenum_key_allowed)] }
def TrunkKeepsSaid : Prop := trunkKeepsRow.holds Tryd.pinned (OpenSpec.ofChange trunkKeepsSpec)

/-- ITS FALSE NEIGHBOUR: 'it returns false'. Refute it at one input. -/
def trunkKeepsWrong : ChangeSpec := { name := "trunkKeeps", fn := fun _ => fun
  | [d1, d2, d3] => { results := [.lit (.bool false)], args := [d1, d2, d3] }
  | _ => none }
def TrunkKeepsWrongFalsely : Prop := trunkKeepsRow.holds Tryd.pinned (OpenSpec.ofChange trunkKeepsWrong)

/-- 'plenumlaw11.SpanScans': WHATEVER THE INPUT: true; the input reads as it did. -/
def spanScansSpec : ChangeSpec := { name := "spanScans", fn := fun _ => fun
  | [d] => { results := [.lit (.bool true)], args := [d] }
  | _ => none }
def spanScansRow : OpenClaim := { program := "ytmjedjhkhjiigaadoor", sum := "8cd6adee4080843764c4dd1e90986721ebd00d4c2ee58e8b5222729b1b4bb059", func := "plenum/plenumlaw11.SpanScans", spec := "spanScans", inPlace := ["internal/bytealg.abigen_runtime_cmpstring", "internal/bytealg.IndexByteString", "internal/bytealg.IndexString"], unfollowed := true, recurses := true, named := ["plenum/key.allowed", "internal/bytealg.MaxLen"], apart := false, laid := [("plenum/key.allowed", laid_plenum_key_allowed)] }
def SpanScansSaid : Prop := spanScansRow.holds Tryd.pinned (OpenSpec.ofChange spanScansSpec)

/-- ITS FALSE NEIGHBOUR: 'it returns false'. Refute it at one input. -/
def spanScansWrong : ChangeSpec := { name := "spanScans", fn := fun _ => fun
  | [d] => { results := [.lit (.bool false)], args := [d] }
  | _ => none }
def SpanScansWrongFalsely : Prop := spanScansRow.holds Tryd.pinned (OpenSpec.ofChange spanScansWrong)

/-- 'plenumlaw11.SpanEnds': WHATEVER THE INPUT: true; the input reads as it did. -/
def spanEndsSpec : ChangeSpec := { name := "spanEnds", fn := fun _ => fun
  | [d1, d2] => { results := [.lit (.bool true)], args := [d1, d2] }
  | _ => none }
def spanEndsRow : OpenClaim := { program := "ytmjedjhkhjiigaadoor", sum := "8cd6adee4080843764c4dd1e90986721ebd00d4c2ee58e8b5222729b1b4bb059", func := "plenum/plenumlaw11.SpanEnds", spec := "spanEnds", inPlace := ["internal/bytealg.abigen_runtime_cmpstring", "internal/bytealg.IndexByteString", "internal/bytealg.IndexString"], unfollowed := true, recurses := true, named := ["plenum/key.allowed", "internal/bytealg.MaxLen"], apart := false, laid := [("plenum/key.allowed", laid_plenum_key_allowed)] }
def SpanEndsSaid : Prop := spanEndsRow.holds Tryd.pinned (OpenSpec.ofChange spanEndsSpec)

/-- ITS FALSE NEIGHBOUR: 'it returns false'. Refute it at one input. -/
def spanEndsWrong : ChangeSpec := { name := "spanEnds", fn := fun _ => fun
  | [d1, d2] => { results := [.lit (.bool false)], args := [d1, d2] }
  | _ => none }
def SpanEndsWrongFalsely : Prop := spanEndsRow.holds Tryd.pinned (OpenSpec.ofChange spanEndsWrong)

/-- 'plenumlaw11.SpanUnder': WHATEVER THE INPUT: true; the input reads as it did. -/
def spanUnderSpec : ChangeSpec := { name := "spanUnder", fn := fun _ => fun
  | [d1, d2] => { results := [.lit (.bool true)], args := [d1, d2] }
  | _ => none }
def spanUnderRow : OpenClaim := { program := "ytmjedjhkhjiigaadoor", sum := "8cd6adee4080843764c4dd1e90986721ebd00d4c2ee58e8b5222729b1b4bb059", func := "plenum/plenumlaw11.SpanUnder", spec := "spanUnder", inPlace := ["internal/bytealg.abigen_runtime_cmpstring", "internal/bytealg.IndexByteString", "internal/bytealg.IndexString"], unfollowed := true, recurses := true, named := ["plenum/key.allowed", "internal/bytealg.MaxLen"], apart := false, laid := [("plenum/key.allowed", laid_plenum_key_allowed)] }
def SpanUnderSaid : Prop := spanUnderRow.holds Tryd.pinned (OpenSpec.ofChange spanUnderSpec)

/-- ITS FALSE NEIGHBOUR: 'it returns false'. Refute it at one input. -/
def spanUnderWrong : ChangeSpec := { name := "spanUnder", fn := fun _ => fun
  | [d1, d2] => { results := [.lit (.bool false)], args := [d1, d2] }
  | _ => none }
def SpanUnderWrongFalsely : Prop := spanUnderRow.holds Tryd.pinned (OpenSpec.ofChange spanUnderWrong)

/-- 'plenumlaw11.SpanParts': WHATEVER THE INPUT: true; the input reads as it did. -/
def spanPartsSpec : ChangeSpec := { name := "spanParts", fn := fun _ => fun
  | [d1, d2] => { results := [.lit (.bool true)], args := [d1, d2] }
  | _ => none }
def spanPartsRow : OpenClaim := { program := "ytmjedjhkhjiigaadoor", sum := "8cd6adee4080843764c4dd1e90986721ebd00d4c2ee58e8b5222729b1b4bb059", func := "plenum/plenumlaw11.SpanParts", spec := "spanParts", inPlace := ["internal/bytealg.abigen_runtime_cmpstring", "internal/bytealg.IndexByteString", "internal/bytealg.IndexString"], unfollowed := true, recurses := true, named := ["plenum/key.allowed", "internal/bytealg.MaxLen"], apart := false, laid := [("plenum/key.allowed", laid_plenum_key_allowed)] }
def SpanPartsSaid : Prop := spanPartsRow.holds Tryd.pinned (OpenSpec.ofChange spanPartsSpec)

/-- ITS FALSE NEIGHBOUR: 'it returns false'. Refute it at one input. -/
def spanPartsWrong : ChangeSpec := { name := "spanParts", fn := fun _ => fun
  | [d1, d2] => { results := [.lit (.bool false)], args := [d1, d2] }
  | _ => none }
def SpanPartsWrongFalsely : Prop := spanPartsRow.holds Tryd.pinned (OpenSpec.ofChange spanPartsWrong)

/- THE SECOND FORM. 'bulk': how many values and letters a reading holds, each counted each time it is reached (what is shared counts as often as it is met; a slice's spare places count too). A statement '..UptoSaid' is the law's where the arguments, and the package variables that the reading takes, are together of bulk at most 1048576: NARROWER than '..Said'. Prove '..Said' where nothing that the law and all that it calls make is longer than what came in: it says more and counts as full. Else prove '..UptoSaid'. A law counts once. -/
mutual
def uptoBulk {H : Type} : DataW H → Nat
  | .lit (.string bytes) => bytes.length + 1
  | .lit _ => 1
  | .nil => 1
  | .ptr d => uptoBulk d + 1
  | .slice elems spare => uptoBulkAll elems + uptoBulkAll spare + 1
  | .agg parts => uptoBulkAll parts + 1
  | .iface _ d => uptoBulk d + 1
  | .map entries => uptoBulkEntries entries + 1
  | .held _ => 1
def uptoBulkAll {H : Type} : List (DataW H) → Nat
  | [] => 0
  | d :: r => uptoBulk d + uptoBulkAll r
def uptoBulkEntries {H : Type} : List (Lit × DataW H) → Nat
  | [] => 0
  | x :: r => uptoBulkEntry x + uptoBulkEntries r
def uptoBulkEntry {H : Type} : Lit × DataW H → Nat
  | (.string bytes, d) => bytes.length + uptoBulk d + 1
  | (_, d) => uptoBulk d + 1
 end
def uptoSmall : (H : Type) → List (DataW H) → Bool := fun _ ds => decide (uptoBulkAll ds ≤ 1048576)
def OpenSpec.upto (s : _root_.Go.ChangeSpec) : _root_.Go.OpenSpec := { _root_.Go.OpenSpec.ofChange s with cond := some uptoSmall }

/-- 'plenumlaw10.TrunkTells', WHERE WHAT IT READS IS OF BULK AT MOST 1048576: true; the input reads as it did. -/
def trunkTellsUptoRow : OpenClaim := { program := "ytmjedjhkhjiigaadoor", sum := "8cd6adee4080843764c4dd1e90986721ebd00d4c2ee58e8b5222729b1b4bb059", func := "plenum/plenumlaw10.TrunkTells", spec := "trunkTells", unfollowed := true, recurses := true, named := ["plenum/key.allowed"], apart := false, laid := [("plenum/key.allowed", laid_plenum_key_allowed)], narrowed := true }
def TrunkTellsUptoSaid : Prop := trunkTellsUptoRow.holds Tryd.pinned (OpenSpec.upto trunkTellsSpec)

/-- 'plenumlaw10.TrunkDoes', WHERE WHAT IT READS IS OF BULK AT MOST 1048576: true; the input reads as it did. -/
def trunkDoesUptoRow : OpenClaim := { program := "ytmjedjhkhjiigaadoor", sum := "8cd6adee4080843764c4dd1e90986721ebd00d4c2ee58e8b5222729b1b4bb059", func := "plenum/plenumlaw10.TrunkDoes", spec := "trunkDoes", unfollowed := true, recurses := true, named := ["plenum/key.allowed"], apart := false, laid := [("plenum/key.allowed", laid_plenum_key_allowed)], narrowed := true }
def TrunkDoesUptoSaid : Prop := trunkDoesUptoRow.holds Tryd.pinned (OpenSpec.upto trunkDoesSpec)

/-- 'plenumlaw10.TrunkReplaces', WHERE WHAT IT READS IS OF BULK AT MOST 1048576: true; the input reads as it did. -/
def trunkReplacesUptoRow : OpenClaim := { program := "ytmjedjhkhjiigaadoor", sum := "8cd6adee4080843764c4dd1e90986721ebd00d4c2ee58e8b5222729b1b4bb059", func := "plenum/plenumlaw10.TrunkReplaces", spec := "trunkReplaces", unfollowed := true, recurses := true, named := ["plenum/key.allowed"], apart := false, laid := [("plenum/key.allowed", laid_plenum_key_allowed)], narrowed := true }
def TrunkReplacesUptoSaid : Prop := trunkReplacesUptoRow.holds Tryd.pinned (OpenSpec.upto trunkReplacesSpec)

/-- 'plenumlaw10.TrunkKeeps', WHERE WHAT IT READS IS OF BULK AT MOST 1048576: true; the input reads as it did. -/
def trunkKeepsUptoRow : OpenClaim := { program := "ytmjedjhkhjiigaadoor", sum := "8cd6adee4080843764c4dd1e90986721ebd00d4c2ee58e8b5222729b1b4bb059", func := "plenum/plenumlaw10.TrunkKeeps", spec := "trunkKeeps", unfollowed := true, recurses := true, named := ["plenum/key.allowed"], apart := false, laid := [("plenum/key.allowed", laid_plenum_key_allowed)], narrowed := true }
def TrunkKeepsUptoSaid : Prop := trunkKeepsUptoRow.holds Tryd.pinned (OpenSpec.upto trunkKeepsSpec)

/-- 'plenumlaw11.SpanScans', WHERE WHAT IT READS IS OF BULK AT MOST 1048576: true; the input reads as it did. -/
def spanScansUptoRow : OpenClaim := { program := "ytmjedjhkhjiigaadoor", sum := "8cd6adee4080843764c4dd1e90986721ebd00d4c2ee58e8b5222729b1b4bb059", func := "plenum/plenumlaw11.SpanScans", spec := "spanScans", inPlace := ["internal/bytealg.abigen_runtime_cmpstring", "internal/bytealg.IndexByteString", "internal/bytealg.IndexString"], unfollowed := true, recurses := true, named := ["plenum/key.allowed", "internal/bytealg.MaxLen"], apart := false, laid := [("plenum/key.allowed", laid_plenum_key_allowed)], narrowed := true }
def SpanScansUptoSaid : Prop := spanScansUptoRow.holds Tryd.pinned (OpenSpec.upto spanScansSpec)

/-- 'plenumlaw11.SpanEnds', WHERE WHAT IT READS IS OF BULK AT MOST 1048576: true; the input reads as it did. -/
def spanEndsUptoRow : OpenClaim := { program := "ytmjedjhkhjiigaadoor", sum := "8cd6adee4080843764c4dd1e90986721ebd00d4c2ee58e8b5222729b1b4bb059", func := "plenum/plenumlaw11.SpanEnds", spec := "spanEnds", inPlace := ["internal/bytealg.abigen_runtime_cmpstring", "internal/bytealg.IndexByteString", "internal/bytealg.IndexString"], unfollowed := true, recurses := true, named := ["plenum/key.allowed", "internal/bytealg.MaxLen"], apart := false, laid := [("plenum/key.allowed", laid_plenum_key_allowed)], narrowed := true }
def SpanEndsUptoSaid : Prop := spanEndsUptoRow.holds Tryd.pinned (OpenSpec.upto spanEndsSpec)

/-- 'plenumlaw11.SpanUnder', WHERE WHAT IT READS IS OF BULK AT MOST 1048576: true; the input reads as it did. -/
def spanUnderUptoRow : OpenClaim := { program := "ytmjedjhkhjiigaadoor", sum := "8cd6adee4080843764c4dd1e90986721ebd00d4c2ee58e8b5222729b1b4bb059", func := "plenum/plenumlaw11.SpanUnder", spec := "spanUnder", inPlace := ["internal/bytealg.abigen_runtime_cmpstring", "internal/bytealg.IndexByteString", "internal/bytealg.IndexString"], unfollowed := true, recurses := true, named := ["plenum/key.allowed", "internal/bytealg.MaxLen"], apart := false, laid := [("plenum/key.allowed", laid_plenum_key_allowed)], narrowed := true }
def SpanUnderUptoSaid : Prop := spanUnderUptoRow.holds Tryd.pinned (OpenSpec.upto spanUnderSpec)

/-- 'plenumlaw11.SpanParts', WHERE WHAT IT READS IS OF BULK AT MOST 1048576: true; the input reads as it did. -/
def spanPartsUptoRow : OpenClaim := { program := "ytmjedjhkhjiigaadoor", sum := "8cd6adee4080843764c4dd1e90986721ebd00d4c2ee58e8b5222729b1b4bb059", func := "plenum/plenumlaw11.SpanParts", spec := "spanParts", inPlace := ["internal/bytealg.abigen_runtime_cmpstring", "internal/bytealg.IndexByteString", "internal/bytealg.IndexString"], unfollowed := true, recurses := true, named := ["plenum/key.allowed", "internal/bytealg.MaxLen"], apart := false, laid := [("plenum/key.allowed", laid_plenum_key_allowed)], narrowed := true }
def SpanPartsUptoSaid : Prop := spanPartsUptoRow.holds Tryd.pinned (OpenSpec.upto spanPartsSpec)

end Rows
end Go.Proofs.YtmjedjhkhjiigaaDoor
