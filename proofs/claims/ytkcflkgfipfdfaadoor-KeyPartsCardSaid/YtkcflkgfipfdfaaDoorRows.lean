/-
  NARROWER THAN 'FOR EVERY INPUT', by the rows' own cells (each row's printed sentence says how): KeyForms: laid · KeyParts: laid · KeyRanges: laid · KeyMeets: laid · KeyUnder: laid.
  DERIVED. THE GIVEN ROWS OF THIS SEAT. 5 by the template 'for every input the law returns true; each argument reads behind the call as it read before'; 0 by the template 'total and deterministic' (their statements: YtkcflkgfipfdfaaDoorTotals.lean).
  GIVEN WITH THE SEED: the statements are not yours to turn. If you find one false, say at which input.
  Laid BY PROGRAM, IN A SANDBOX (cutbox-rows.mjs): the forced cells as the released guide's own fill.sh prints them over the translation bcf5aab99dd906ac… (all of the seat's roots in one cut). By AI agents, Wed Nov 11 2026. No macro, syntax, notation, axiom, sorry.
-/
import Derived.Test.YtkcflkgfipfdfaaDoorChecked
import GoSem.Claim
import GoSem.ClaimJoined
import GoSem.ClaimMapViews
import Derived.JoinedTies
import Derived.KernelRfl
namespace Go.Proofs.YtkcflkgfipfdfaaDoor
/- THE CELL 'sum', in the pinned program and in every row, IS THE sha256 OF THE DUMP (.gsa) THAT YtkcflkgfipfdfaaDoorProg.lean LOADS. Nothing in Lean hashes anything: it is a label: what it is worth is what the hold of that sum in a sandbox is worth. -/
noncomputable def Tryd.pinned : Pinned := { name := "ytkcflkgfipfdfaadoor", sum := "bcf5aab99dd906ac7edf5bfd57576630c667f8b0eddd8e1a5ec1af3e8f5705ee", checked := Tryd.checked }
namespace Rows
def none {H : Type} : Left H := { results := [], args := [] }

/- WHAT THE LISTED PACKAGE-LEVEL VARIABLES READ AS WHEN THE CALL BEGINS. Each datum BY PROGRAM (the guide's laid-datum.mjs) off the statement by which the dump's own 'gosem.cut.vars' lays the variable. In a bare row this is a premise. The card (YtkcflkgfipfdfaaDoorCards.lean) ties it to the program's text. -/
def laid_plenum_key_allowed {H : Type} : DataW H := .agg [.lit (.int .u64 288195191779622912), .lit (.int .u64 576460745860972544)]

/-- 'plenumlaw08.KeyForms': WHATEVER THE INPUT: true; the input reads as it did. -/
def keyFormsSpec : ChangeSpec := { name := "keyForms", fn := fun _ => fun
  | [d1, d2] => { results := [.lit (.bool true)], args := [d1, d2] }
  | _ => none }
def keyFormsRow : OpenClaim := { program := "ytkcflkgfipfdfaadoor", sum := "bcf5aab99dd906ac7edf5bfd57576630c667f8b0eddd8e1a5ec1af3e8f5705ee", func := "plenum/plenumlaw08.KeyForms", spec := "keyForms", inPlace := ["internal/bytealg.IndexByteString", "internal/bytealg.IndexString"], unfollowed := true, recurses := true, named := ["plenum/key.allowed", "internal/bytealg.MaxLen"], apart := false, laid := [("plenum/key.allowed", laid_plenum_key_allowed)] }
def KeyFormsSaid : Prop := keyFormsRow.holds Tryd.pinned (OpenSpec.ofChange keyFormsSpec)

/-- ITS FALSE NEIGHBOUR: 'it returns false'. Refute it at one input. -/
def keyFormsWrong : ChangeSpec := { name := "keyForms", fn := fun _ => fun
  | [d1, d2] => { results := [.lit (.bool false)], args := [d1, d2] }
  | _ => none }
def KeyFormsWrongFalsely : Prop := keyFormsRow.holds Tryd.pinned (OpenSpec.ofChange keyFormsWrong)

/-- 'plenumlaw08.KeyParts': WHATEVER THE INPUT: true; the input reads as it did. -/
def keyPartsSpec : ChangeSpec := { name := "keyParts", fn := fun _ => fun
  | [d1, d2] => { results := [.lit (.bool true)], args := [d1, d2] }
  | _ => none }
def keyPartsRow : OpenClaim := { program := "ytkcflkgfipfdfaadoor", sum := "bcf5aab99dd906ac7edf5bfd57576630c667f8b0eddd8e1a5ec1af3e8f5705ee", func := "plenum/plenumlaw08.KeyParts", spec := "keyParts", inPlace := ["internal/abi.NoEscape", "internal/bytealg.MakeNoZero", "internal/bytealg.IndexByteString", "internal/bytealg.IndexString"], unfollowed := true, recurses := true, named := ["plenum/key.allowed", "internal/bytealg.MaxLen"], apart := false, laid := [("plenum/key.allowed", laid_plenum_key_allowed)] }
def KeyPartsSaid : Prop := keyPartsRow.holds Tryd.pinned (OpenSpec.ofChange keyPartsSpec)

/-- ITS FALSE NEIGHBOUR: 'it returns false'. Refute it at one input. -/
def keyPartsWrong : ChangeSpec := { name := "keyParts", fn := fun _ => fun
  | [d1, d2] => { results := [.lit (.bool false)], args := [d1, d2] }
  | _ => none }
def KeyPartsWrongFalsely : Prop := keyPartsRow.holds Tryd.pinned (OpenSpec.ofChange keyPartsWrong)

/-- 'plenumlaw08.KeyRanges': WHATEVER THE INPUT: true; the input reads as it did. -/
def keyRangesSpec : ChangeSpec := { name := "keyRanges", fn := fun _ => fun
  | [d1, d2, d3] => { results := [.lit (.bool true)], args := [d1, d2, d3] }
  | _ => none }
def keyRangesRow : OpenClaim := { program := "ytkcflkgfipfdfaadoor", sum := "bcf5aab99dd906ac7edf5bfd57576630c667f8b0eddd8e1a5ec1af3e8f5705ee", func := "plenum/plenumlaw08.KeyRanges", spec := "keyRanges", inPlace := ["internal/bytealg.IndexByteString", "internal/bytealg.IndexString"], unfollowed := true, recurses := true, named := ["plenum/key.allowed", "internal/bytealg.MaxLen"], apart := false, laid := [("plenum/key.allowed", laid_plenum_key_allowed)] }
def KeyRangesSaid : Prop := keyRangesRow.holds Tryd.pinned (OpenSpec.ofChange keyRangesSpec)

/-- ITS FALSE NEIGHBOUR: 'it returns false'. Refute it at one input. -/
def keyRangesWrong : ChangeSpec := { name := "keyRanges", fn := fun _ => fun
  | [d1, d2, d3] => { results := [.lit (.bool false)], args := [d1, d2, d3] }
  | _ => none }
def KeyRangesWrongFalsely : Prop := keyRangesRow.holds Tryd.pinned (OpenSpec.ofChange keyRangesWrong)

/-- 'plenumlaw08.KeyMeets': WHATEVER THE INPUT: true; the input reads as it did. -/
def keyMeetsSpec : ChangeSpec := { name := "keyMeets", fn := fun _ => fun
  | [d1, d2, d3] => { results := [.lit (.bool true)], args := [d1, d2, d3] }
  | _ => none }
def keyMeetsRow : OpenClaim := { program := "ytkcflkgfipfdfaadoor", sum := "bcf5aab99dd906ac7edf5bfd57576630c667f8b0eddd8e1a5ec1af3e8f5705ee", func := "plenum/plenumlaw08.KeyMeets", spec := "keyMeets", inPlace := ["internal/bytealg.IndexByteString", "internal/bytealg.IndexString"], unfollowed := true, recurses := true, named := ["plenum/key.allowed", "internal/bytealg.MaxLen"], apart := false, laid := [("plenum/key.allowed", laid_plenum_key_allowed)] }
def KeyMeetsSaid : Prop := keyMeetsRow.holds Tryd.pinned (OpenSpec.ofChange keyMeetsSpec)

/-- ITS FALSE NEIGHBOUR: 'it returns false'. Refute it at one input. -/
def keyMeetsWrong : ChangeSpec := { name := "keyMeets", fn := fun _ => fun
  | [d1, d2, d3] => { results := [.lit (.bool false)], args := [d1, d2, d3] }
  | _ => none }
def KeyMeetsWrongFalsely : Prop := keyMeetsRow.holds Tryd.pinned (OpenSpec.ofChange keyMeetsWrong)

/-- 'plenumlaw08.KeyUnder': WHATEVER THE INPUT: true; the input reads as it did. -/
def keyUnderSpec : ChangeSpec := { name := "keyUnder", fn := fun _ => fun
  | [d] => { results := [.lit (.bool true)], args := [d] }
  | _ => none }
def keyUnderRow : OpenClaim := { program := "ytkcflkgfipfdfaadoor", sum := "bcf5aab99dd906ac7edf5bfd57576630c667f8b0eddd8e1a5ec1af3e8f5705ee", func := "plenum/plenumlaw08.KeyUnder", spec := "keyUnder", inPlace := ["internal/bytealg.IndexByteString", "internal/bytealg.IndexString"], unfollowed := true, recurses := true, named := ["plenum/key.allowed", "internal/bytealg.MaxLen"], apart := false, laid := [("plenum/key.allowed", laid_plenum_key_allowed)] }
def KeyUnderSaid : Prop := keyUnderRow.holds Tryd.pinned (OpenSpec.ofChange keyUnderSpec)

/-- ITS FALSE NEIGHBOUR: 'it returns false'. Refute it at one input. -/
def keyUnderWrong : ChangeSpec := { name := "keyUnder", fn := fun _ => fun
  | [d] => { results := [.lit (.bool false)], args := [d] }
  | _ => none }
def KeyUnderWrongFalsely : Prop := keyUnderRow.holds Tryd.pinned (OpenSpec.ofChange keyUnderWrong)

/- THE SECOND FORM. 'bulk': how many values and letters a reading holds, each counted each time it is reached (what is shared counts as often as it is met; a slice's spare places count too). A statement '..UptoSaid' is the law's where the arguments, and the package variables that the reading takes, are together of bulk at most 1048576: NARROWER than '..Said'. Prove '..Said' where nothing that the law and all that it calls make is longer than what came in: it says more and counts as full. Else prove '..UptoSaid'. A law counts once. -/
mutual
def uptoBulk {H : Type} : DataW H → Nat
  | .lit (.string bytes) => bytes.length + 1
  | .lit _ => 1
  | .nil => 1
  | .ptr d => uptoBulk d + 1
  | .slice elems spare => uptoBulkAll elems + uptoBulkAll spare + 1
  | .agg parts => uptoBulkAll parts + 1
  | .iface _ d => uptoBulk d + 1
  | .map entries => uptoBulkEntries entries + 1
  | .held _ => 1
def uptoBulkAll {H : Type} : List (DataW H) → Nat
  | [] => 0
  | d :: r => uptoBulk d + uptoBulkAll r
def uptoBulkEntries {H : Type} : List (Lit × DataW H) → Nat
  | [] => 0
  | x :: r => uptoBulkEntry x + uptoBulkEntries r
def uptoBulkEntry {H : Type} : Lit × DataW H → Nat
  | (.string bytes, d) => bytes.length + uptoBulk d + 1
  | (_, d) => uptoBulk d + 1
 end
def uptoSmall : (H : Type) → List (DataW H) → Bool := fun _ ds => decide (uptoBulkAll ds ≤ 1048576)
def OpenSpec.upto (s : _root_.Go.ChangeSpec) : _root_.Go.OpenSpec := { _root_.Go.OpenSpec.ofChange s with cond := some uptoSmall }

/-- 'plenumlaw08.KeyForms', WHERE WHAT IT READS IS OF BULK AT MOST 1048576: true; the input reads as it did. -/
def keyFormsUptoRow : OpenClaim := { program := "ytkcflkgfipfdfaadoor", sum := "bcf5aab99dd906ac7edf5bfd57576630c667f8b0eddd8e1a5ec1af3e8f5705ee", func := "plenum/plenumlaw08.KeyForms", spec := "keyForms", inPlace := ["internal/bytealg.IndexByteString", "internal/bytealg.IndexString"], unfollowed := true, recurses := true, named := ["plenum/key.allowed", "internal/bytealg.MaxLen"], apart := false, laid := [("plenum/key.allowed", laid_plenum_key_allowed)], narrowed := true }
def KeyFormsUptoSaid : Prop := keyFormsUptoRow.holds Tryd.pinned (OpenSpec.upto keyFormsSpec)

/-- 'plenumlaw08.KeyParts', WHERE WHAT IT READS IS OF BULK AT MOST 1048576: true; the input reads as it did. -/
def keyPartsUptoRow : OpenClaim := { program := "ytkcflkgfipfdfaadoor", sum := "bcf5aab99dd906ac7edf5bfd57576630c667f8b0eddd8e1a5ec1af3e8f5705ee", func := "plenum/plenumlaw08.KeyParts", spec := "keyParts", inPlace := ["internal/abi.NoEscape", "internal/bytealg.MakeNoZero", "internal/bytealg.IndexByteString", "internal/bytealg.IndexString"], unfollowed := true, recurses := true, named := ["plenum/key.allowed", "internal/bytealg.MaxLen"], apart := false, laid := [("plenum/key.allowed", laid_plenum_key_allowed)], narrowed := true }
def KeyPartsUptoSaid : Prop := keyPartsUptoRow.holds Tryd.pinned (OpenSpec.upto keyPartsSpec)

/-- 'plenumlaw08.KeyRanges', WHERE WHAT IT READS IS OF BULK AT MOST 1048576: true; the input reads as it did. -/
def keyRangesUptoRow : OpenClaim := { program := "ytkcflkgfipfdfaadoor", sum := "bcf5aab99dd906ac7edf5bfd57576630c667f8b0eddd8e1a5ec1af3e8f5705ee", func := "plenum/plenumlaw08.KeyRanges", spec := "keyRanges", inPlace := ["internal/bytealg.IndexByteString", "internal/bytealg.IndexString"], unfollowed := true, recurses := true, named := ["plenum/key.allowed", "internal/bytealg.MaxLen"], apart := false, laid := [("plenum/key.allowed", laid_plenum_key_allowed)], narrowed := true }
def KeyRangesUptoSaid : Prop := keyRangesUptoRow.holds Tryd.pinned (OpenSpec.upto keyRangesSpec)

/-- 'plenumlaw08.KeyMeets', WHERE WHAT IT READS IS OF BULK AT MOST 1048576: true; the input reads as it did. -/
def keyMeetsUptoRow : OpenClaim := { program := "ytkcflkgfipfdfaadoor", sum := "bcf5aab99dd906ac7edf5bfd57576630c667f8b0eddd8e1a5ec1af3e8f5705ee", func := "plenum/plenumlaw08.KeyMeets", spec := "keyMeets", inPlace := ["internal/bytealg.IndexByteString", "internal/bytealg.IndexString"], unfollowed := true, recurses := true, named := ["plenum/key.allowed", "internal/bytealg.MaxLen"], apart := false, laid := [("plenum/key.allowed", laid_plenum_key_allowed)], narrowed := true }
def KeyMeetsUptoSaid : Prop := keyMeetsUptoRow.holds Tryd.pinned (OpenSpec.upto keyMeetsSpec)

/-- 'plenumlaw08.KeyUnder', WHERE WHAT IT READS IS OF BULK AT MOST 1048576: true; the input reads as it did. -/
def keyUnderUptoRow : OpenClaim := { program := "ytkcflkgfipfdfaadoor", sum := "bcf5aab99dd906ac7edf5bfd57576630c667f8b0eddd8e1a5ec1af3e8f5705ee", func := "plenum/plenumlaw08.KeyUnder", spec := "keyUnder", inPlace := ["internal/bytealg.IndexByteString", "internal/bytealg.IndexString"], unfollowed := true, recurses := true, named := ["plenum/key.allowed", "internal/bytealg.MaxLen"], apart := false, laid := [("plenum/key.allowed", laid_plenum_key_allowed)], narrowed := true }
def KeyUnderUptoSaid : Prop := keyUnderUptoRow.holds Tryd.pinned (OpenSpec.upto keyUnderSpec)

end Rows
end Go.Proofs.YtkcflkgfipfdfaaDoor
