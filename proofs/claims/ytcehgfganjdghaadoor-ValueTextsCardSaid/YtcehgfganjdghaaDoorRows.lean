/-
  NARROWER THAN 'FOR EVERY INPUT', by the rows' own cells (each row's printed sentence says how): LeafChecks: laid · LeafDoes: laid · LeafScans: laid · LeafChunks: laid · LeafBack: laid · LeafKeeps: laid · ValueTexts: laid.
  DERIVED. THE GIVEN ROWS OF THIS SEAT. 7 by the template 'for every input the law returns true; each argument reads behind the call as it read before'; 0 by the template 'total and deterministic' (their statements: YtcehgfganjdghaaDoorTotals.lean).
  GIVEN WITH THE SEED: the statements are not yours to turn. If you find one false, say at which input.
  Laid BY PROGRAM, IN A SANDBOX (cutbox-rows.mjs): the forced cells as the released guide's own fill.sh prints them over the translation 42a3fa086e589d57… (all of the seat's roots in one cut). By AI agents, Wed Nov 11 2026. No macro, syntax, notation, axiom, sorry.
-/
import Derived.Test.YtcehgfganjdghaaDoorChecked
import GoSem.Claim
import GoSem.ClaimJoined
import GoSem.ClaimMapViews
import Derived.JoinedTies
import Derived.KernelRfl
namespace Go.Proofs.YtcehgfganjdghaaDoor
/- THE CELL 'sum', in the pinned program and in every row, IS THE sha256 OF THE DUMP (.gsa) THAT YtcehgfganjdghaaDoorProg.lean LOADS. Nothing in Lean hashes anything: it is a label: what it is worth is what the hold of that sum in a sandbox is worth. -/
noncomputable def Tryd.pinned : Pinned := { name := "ytcehgfganjdghaadoor", sum := "42a3fa086e589d57c7ce1c3c5865d712ba1e83815cc08632763fdd085243ac55", checked := Tryd.checked }
namespace Rows
def none {H : Type} : Left H := { results := [], args := [] }

/- WHAT THE LISTED PACKAGE-LEVEL VARIABLES READ AS WHEN THE CALL BEGINS. Each datum BY PROGRAM (the guide's laid-datum.mjs) off the statement by which the dump's own 'gosem.cut.vars' lays the variable. In a bare row this is a premise. The card (YtcehgfganjdghaaDoorCards.lean) ties it to the program's text. -/
def laid_plenum_key_allowed {H : Type} : DataW H := .agg [.lit (.int .u64 288195191779622912), .lit (.int .u64 576460745860972544)]
def laid_math_bits_deBruijn32tab {H : Type} : DataW H := .agg [.lit (.int .u8 0), .lit (.int .u8 1), .lit (.int .u8 28), .lit (.int .u8 2), .lit (.int .u8 29), .lit (.int .u8 14), .lit (.int .u8 24), .lit (.int .u8 3), .lit (.int .u8 30), .lit (.int .u8 22), .lit (.int .u8 20), .lit (.int .u8 15), .lit (.int .u8 25), .lit (.int .u8 17), .lit (.int .u8 4), .lit (.int .u8 8), .lit (.int .u8 31), .lit (.int .u8 27), .lit (.int .u8 13), .lit (.int .u8 23), .lit (.int .u8 21), .lit (.int .u8 19), .lit (.int .u8 16), .lit (.int .u8 7), .lit (.int .u8 26), .lit (.int .u8 12), .lit (.int .u8 18), .lit (.int .u8 6), .lit (.int .u8 11), .lit (.int .u8 5), .lit (.int .u8 10), .lit (.int .u8 9)]
def laid_math_bits_deBruijn64tab {H : Type} : DataW H := .agg [.lit (.int .u8 0), .lit (.int .u8 1), .lit (.int .u8 56), .lit (.int .u8 2), .lit (.int .u8 57), .lit (.int .u8 49), .lit (.int .u8 28), .lit (.int .u8 3), .lit (.int .u8 61), .lit (.int .u8 58), .lit (.int .u8 42), .lit (.int .u8 50), .lit (.int .u8 38), .lit (.int .u8 29), .lit (.int .u8 17), .lit (.int .u8 4), .lit (.int .u8 62), .lit (.int .u8 47), .lit (.int .u8 59), .lit (.int .u8 36), .lit (.int .u8 45), .lit (.int .u8 43), .lit (.int .u8 51), .lit (.int .u8 22), .lit (.int .u8 53), .lit (.int .u8 39), .lit (.int .u8 33), .lit (.int .u8 30), .lit (.int .u8 24), .lit (.int .u8 18), .lit (.int .u8 12), .lit (.int .u8 5), .lit (.int .u8 63), .lit (.int .u8 55), .lit (.int .u8 48), .lit (.int .u8 27), .lit (.int .u8 60), .lit (.int .u8 41), .lit (.int .u8 37), .lit (.int .u8 16), .lit (.int .u8 46), .lit (.int .u8 35), .lit (.int .u8 44), .lit (.int .u8 21), .lit (.int .u8 52), .lit (.int .u8 32), .lit (.int .u8 23), .lit (.int .u8 11), .lit (.int .u8 54), .lit (.int .u8 26), .lit (.int .u8 40), .lit (.int .u8 15), .lit (.int .u8 34), .lit (.int .u8 20), .lit (.int .u8 31), .lit (.int .u8 10), .lit (.int .u8 25), .lit (.int .u8 14), .lit (.int .u8 19), .lit (.int .u8 9), .lit (.int .u8 13), .lit (.int .u8 8), .lit (.int .u8 7), .lit (.int .u8 6)]
def laid_internal_strconv_uint64pow10 {H : Type} : DataW H := .agg [.lit (.int .u64 1), .lit (.int .u64 10), .lit (.int .u64 100), .lit (.int .u64 1000), .lit (.int .u64 10000), .lit (.int .u64 100000), .lit (.int .u64 1000000), .lit (.int .u64 10000000), .lit (.int .u64 100000000), .lit (.int .u64 1000000000), .lit (.int .u64 10000000000), .lit (.int .u64 100000000000), .lit (.int .u64 1000000000000), .lit (.int .u64 10000000000000), .lit (.int .u64 100000000000000), .lit (.int .u64 1000000000000000), .lit (.int .u64 10000000000000000), .lit (.int .u64 100000000000000000), .lit (.int .u64 1000000000000000000), .lit (.int .u64 10000000000000000000)]

/-- 'plenumlaw09.LeafChecks': WHATEVER THE INPUT: true; the input reads as it did. -/
def leafChecksSpec : ChangeSpec := { name := "leafChecks", fn := fun _ => fun
  | [d] => { results := [.lit (.bool true)], args := [d] }
  | _ => none }
def leafChecksRow : OpenClaim := { program := "ytcehgfganjdghaadoor", sum := "42a3fa086e589d57c7ce1c3c5865d712ba1e83815cc08632763fdd085243ac55", func := "plenum/plenumlaw09.LeafChecks", spec := "leafChecks", unfollowed := true, recurses := true, named := ["plenum/key.allowed"], apart := false, laid := [("plenum/key.allowed", laid_plenum_key_allowed)] }
def LeafChecksSaid : Prop := leafChecksRow.holds Tryd.pinned (OpenSpec.ofChange leafChecksSpec)

/-- ITS FALSE NEIGHBOUR: 'it returns false'. Refute it at one input. -/
def leafChecksWrong : ChangeSpec := { name := "leafChecks", fn := fun _ => fun
  | [d] => { results := [.lit (.bool false)], args := [d] }
  | _ => none }
def LeafChecksWrongFalsely : Prop := leafChecksRow.holds Tryd.pinned (OpenSpec.ofChange leafChecksWrong)

/-- 'plenumlaw09.LeafDoes': WHATEVER THE INPUT: true; the input reads as it did. -/
def leafDoesSpec : ChangeSpec := { name := "leafDoes", fn := fun _ => fun
  | [d1, d2, d3] => { results := [.lit (.bool true)], args := [d1, d2, d3] }
  | _ => none }
def leafDoesRow : OpenClaim := { program := "ytcehgfganjdghaadoor", sum := "42a3fa086e589d57c7ce1c3c5865d712ba1e83815cc08632763fdd085243ac55", func := "plenum/plenumlaw09.LeafDoes", spec := "leafDoes", unfollowed := true, recurses := true, named := ["plenum/key.allowed"], apart := false, laid := [("plenum/key.allowed", laid_plenum_key_allowed)] }
def LeafDoesSaid : Prop := leafDoesRow.holds Tryd.pinned (OpenSpec.ofChange leafDoesSpec)

/-- ITS FALSE NEIGHBOUR: 'it returns false'. Refute it at one input. -/
def leafDoesWrong : ChangeSpec := { name := "leafDoes", fn := fun _ => fun
  | [d1, d2, d3] => { results := [.lit (.bool false)], args := [d1, d2, d3] }
  | _ => none }
def LeafDoesWrongFalsely : Prop := leafDoesRow.holds Tryd.pinned (OpenSpec.ofChange leafDoesWrong)

/-- 'plenumlaw09.LeafScans': WHATEVER THE INPUT: true; the input reads as it did. -/
def leafScansSpec : ChangeSpec := { name := "leafScans", fn := fun _ => fun
  | [d] => { results := [.lit (.bool true)], args := [d] }
  | _ => none }
def leafScansRow : OpenClaim := { program := "ytcehgfganjdghaadoor", sum := "42a3fa086e589d57c7ce1c3c5865d712ba1e83815cc08632763fdd085243ac55", func := "plenum/plenumlaw09.LeafScans", spec := "leafScans", unfollowed := true, recurses := true, named := ["plenum/key.allowed"], apart := false, laid := [("plenum/key.allowed", laid_plenum_key_allowed)] }
def LeafScansSaid : Prop := leafScansRow.holds Tryd.pinned (OpenSpec.ofChange leafScansSpec)

/-- ITS FALSE NEIGHBOUR: 'it returns false'. Refute it at one input. -/
def leafScansWrong : ChangeSpec := { name := "leafScans", fn := fun _ => fun
  | [d] => { results := [.lit (.bool false)], args := [d] }
  | _ => none }
def LeafScansWrongFalsely : Prop := leafScansRow.holds Tryd.pinned (OpenSpec.ofChange leafScansWrong)

/-- 'plenumlaw09.LeafChunks': WHATEVER THE INPUT: true; the input reads as it did. -/
def leafChunksSpec : ChangeSpec := { name := "leafChunks", fn := fun _ => fun
  | [d1, d2] => { results := [.lit (.bool true)], args := [d1, d2] }
  | _ => none }
def leafChunksRow : OpenClaim := { program := "ytcehgfganjdghaadoor", sum := "42a3fa086e589d57c7ce1c3c5865d712ba1e83815cc08632763fdd085243ac55", func := "plenum/plenumlaw09.LeafChunks", spec := "leafChunks", unfollowed := true, recurses := true, named := ["plenum/key.allowed"], apart := false, laid := [("plenum/key.allowed", laid_plenum_key_allowed)] }
def LeafChunksSaid : Prop := leafChunksRow.holds Tryd.pinned (OpenSpec.ofChange leafChunksSpec)

/-- ITS FALSE NEIGHBOUR: 'it returns false'. Refute it at one input. -/
def leafChunksWrong : ChangeSpec := { name := "leafChunks", fn := fun _ => fun
  | [d1, d2] => { results := [.lit (.bool false)], args := [d1, d2] }
  | _ => none }
def LeafChunksWrongFalsely : Prop := leafChunksRow.holds Tryd.pinned (OpenSpec.ofChange leafChunksWrong)

/-- 'plenumlaw09.LeafBack': WHATEVER THE INPUT: true; the input reads as it did. -/
def leafBackSpec : ChangeSpec := { name := "leafBack", fn := fun _ => fun
  | [d1, d2] => { results := [.lit (.bool true)], args := [d1, d2] }
  | _ => none }
def leafBackRow : OpenClaim := { program := "ytcehgfganjdghaadoor", sum := "42a3fa086e589d57c7ce1c3c5865d712ba1e83815cc08632763fdd085243ac55", func := "plenum/plenumlaw09.LeafBack", spec := "leafBack", unfollowed := true, recurses := true, named := ["plenum/key.allowed"], apart := false, laid := [("plenum/key.allowed", laid_plenum_key_allowed)] }
def LeafBackSaid : Prop := leafBackRow.holds Tryd.pinned (OpenSpec.ofChange leafBackSpec)

/-- ITS FALSE NEIGHBOUR: 'it returns false'. Refute it at one input. -/
def leafBackWrong : ChangeSpec := { name := "leafBack", fn := fun _ => fun
  | [d1, d2] => { results := [.lit (.bool false)], args := [d1, d2] }
  | _ => none }
def LeafBackWrongFalsely : Prop := leafBackRow.holds Tryd.pinned (OpenSpec.ofChange leafBackWrong)

/-- 'plenumlaw09.LeafKeeps': WHATEVER THE INPUT: true; the input reads as it did. -/
def leafKeepsSpec : ChangeSpec := { name := "leafKeeps", fn := fun _ => fun
  | [d1, d2, d3] => { results := [.lit (.bool true)], args := [d1, d2, d3] }
  | _ => none }
def leafKeepsRow : OpenClaim := { program := "ytcehgfganjdghaadoor", sum := "42a3fa086e589d57c7ce1c3c5865d712ba1e83815cc08632763fdd085243ac55", func := "plenum/plenumlaw09.LeafKeeps", spec := "leafKeeps", unfollowed := true, recurses := true, named := ["plenum/key.allowed"], apart := false, laid := [("plenum/key.allowed", laid_plenum_key_allowed)] }
def LeafKeepsSaid : Prop := leafKeepsRow.holds Tryd.pinned (OpenSpec.ofChange leafKeepsSpec)

/-- ITS FALSE NEIGHBOUR: 'it returns false'. Refute it at one input. -/
def leafKeepsWrong : ChangeSpec := { name := "leafKeeps", fn := fun _ => fun
  | [d1, d2, d3] => { results := [.lit (.bool false)], args := [d1, d2, d3] }
  | _ => none }
def LeafKeepsWrongFalsely : Prop := leafKeepsRow.holds Tryd.pinned (OpenSpec.ofChange leafKeepsWrong)

/-- 'plenumlaw07.ValueTexts': WHATEVER THE INPUT: true; the input reads as it did. -/
def valueTextsSpec : ChangeSpec := { name := "valueTexts", fn := fun _ => fun
  | [d1, d2] => { results := [.lit (.bool true)], args := [d1, d2] }
  | _ => none }
def valueTextsRow : OpenClaim := { program := "ytcehgfganjdghaadoor", sum := "42a3fa086e589d57c7ce1c3c5865d712ba1e83815cc08632763fdd085243ac55", func := "plenum/plenumlaw07.ValueTexts", spec := "valueTexts", inPlace := ["internal/bytealg.abigen_runtime_cmpstring"], unfollowed := true, recurses := true, named := ["internal/strconv.uint64pow10", "math/bits.deBruijn32tab", "math/bits.deBruijn64tab"], apart := false, laid := [("math/bits.deBruijn32tab", laid_math_bits_deBruijn32tab), ("math/bits.deBruijn64tab", laid_math_bits_deBruijn64tab), ("internal/strconv.uint64pow10", laid_internal_strconv_uint64pow10)] }
def ValueTextsSaid : Prop := valueTextsRow.holds Tryd.pinned (OpenSpec.ofChange valueTextsSpec)

/-- ITS FALSE NEIGHBOUR: 'it returns false'. Refute it at one input. -/
def valueTextsWrong : ChangeSpec := { name := "valueTexts", fn := fun _ => fun
  | [d1, d2] => { results := [.lit (.bool false)], args := [d1, d2] }
  | _ => none }
def ValueTextsWrongFalsely : Prop := valueTextsRow.holds Tryd.pinned (OpenSpec.ofChange valueTextsWrong)

/- THE SECOND FORM. 'bulk': how many values and letters a reading holds, each counted each time it is reached (what is shared counts as often as it is met; a slice's spare places count too). A statement '..UptoSaid' is the law's where the arguments, and the package variables that the reading takes, are together of bulk at most 1048576: NARROWER than '..Said'. Prove '..Said' where nothing that the law and all that it calls make is longer than what came in: it says more and counts as full. Else prove '..UptoSaid'. A law counts once. -/
mutual
def uptoBulk {H : Type} : DataW H → Nat
  | .lit (.string bytes) => bytes.length + 1
  | .lit _ => 1
  | .nil => 1
  | .ptr d => uptoBulk d + 1
  | .slice elems spare => uptoBulkAll elems + uptoBulkAll spare + 1
  | .agg parts => uptoBulkAll parts + 1
  | .iface _ d => uptoBulk d + 1
  | .map entries => uptoBulkEntries entries + 1
  | .held _ => 1
def uptoBulkAll {H : Type} : List (DataW H) → Nat
  | [] => 0
  | d :: r => uptoBulk d + uptoBulkAll r
def uptoBulkEntries {H : Type} : List (Lit × DataW H) → Nat
  | [] => 0
  | x :: r => uptoBulkEntry x + uptoBulkEntries r
def uptoBulkEntry {H : Type} : Lit × DataW H → Nat
  | (.string bytes, d) => bytes.length + uptoBulk d + 1
  | (_, d) => uptoBulk d + 1
 end
def uptoSmall : (H : Type) → List (DataW H) → Bool := fun _ ds => decide (uptoBulkAll ds ≤ 1048576)
def OpenSpec.upto (s : _root_.Go.ChangeSpec) : _root_.Go.OpenSpec := { _root_.Go.OpenSpec.ofChange s with cond := some uptoSmall }

/-- 'plenumlaw09.LeafChecks', WHERE WHAT IT READS IS OF BULK AT MOST 1048576: true; the input reads as it did. -/
def leafChecksUptoRow : OpenClaim := { program := "ytcehgfganjdghaadoor", sum := "42a3fa086e589d57c7ce1c3c5865d712ba1e83815cc08632763fdd085243ac55", func := "plenum/plenumlaw09.LeafChecks", spec := "leafChecks", unfollowed := true, recurses := true, named := ["plenum/key.allowed"], apart := false, laid := [("plenum/key.allowed", laid_plenum_key_allowed)], narrowed := true }
def LeafChecksUptoSaid : Prop := leafChecksUptoRow.holds Tryd.pinned (OpenSpec.upto leafChecksSpec)

/-- 'plenumlaw09.LeafDoes', WHERE WHAT IT READS IS OF BULK AT MOST 1048576: true; the input reads as it did. -/
def leafDoesUptoRow : OpenClaim := { program := "ytcehgfganjdghaadoor", sum := "42a3fa086e589d57c7ce1c3c5865d712ba1e83815cc08632763fdd085243ac55", func := "plenum/plenumlaw09.LeafDoes", spec := "leafDoes", unfollowed := true, recurses := true, named := ["plenum/key.allowed"], apart := false, laid := [("plenum/key.allowed", laid_plenum_key_allowed)], narrowed := true }
def LeafDoesUptoSaid : Prop := leafDoesUptoRow.holds Tryd.pinned (OpenSpec.upto leafDoesSpec)

/-- 'plenumlaw09.LeafScans', WHERE WHAT IT READS IS OF BULK AT MOST 1048576: true; the input reads as it did. -/
def leafScansUptoRow : OpenClaim := { program := "ytcehgfganjdghaadoor", sum := "42a3fa086e589d57c7ce1c3c5865d712ba1e83815cc08632763fdd085243ac55", func := "plenum/plenumlaw09.LeafScans", spec := "leafScans", unfollowed := true, recurses := true, named := ["plenum/key.allowed"], apart := false, laid := [("plenum/key.allowed", laid_plenum_key_allowed)], narrowed := true }
def LeafScansUptoSaid : Prop := leafScansUptoRow.holds Tryd.pinned (OpenSpec.upto leafScansSpec)

/-- 'plenumlaw09.LeafChunks', WHERE WHAT IT READS IS OF BULK AT MOST 1048576: true; the input reads as it did. -/
def leafChunksUptoRow : OpenClaim := { program := "ytcehgfganjdghaadoor", sum := "42a3fa086e589d57c7ce1c3c5865d712ba1e83815cc08632763fdd085243ac55", func := "plenum/plenumlaw09.LeafChunks", spec := "leafChunks", unfollowed := true, recurses := true, named := ["plenum/key.allowed"], apart := false, laid := [("plenum/key.allowed", laid_plenum_key_allowed)], narrowed := true }
def LeafChunksUptoSaid : Prop := leafChunksUptoRow.holds Tryd.pinned (OpenSpec.upto leafChunksSpec)

/-- 'plenumlaw09.LeafBack', WHERE WHAT IT READS IS OF BULK AT MOST 1048576: true; the input reads as it did. -/
def leafBackUptoRow : OpenClaim := { program := "ytcehgfganjdghaadoor", sum := "42a3fa086e589d57c7ce1c3c5865d712ba1e83815cc08632763fdd085243ac55", func := "plenum/plenumlaw09.LeafBack", spec := "leafBack", unfollowed := true, recurses := true, named := ["plenum/key.allowed"], apart := false, laid := [("plenum/key.allowed", laid_plenum_key_allowed)], narrowed := true }
def LeafBackUptoSaid : Prop := leafBackUptoRow.holds Tryd.pinned (OpenSpec.upto leafBackSpec)

/-- 'plenumlaw09.LeafKeeps', WHERE WHAT IT READS IS OF BULK AT MOST 1048576: true; the input reads as it did. -/
def leafKeepsUptoRow : OpenClaim := { program := "ytcehgfganjdghaadoor", sum := "42a3fa086e589d57c7ce1c3c5865d712ba1e83815cc08632763fdd085243ac55", func := "plenum/plenumlaw09.LeafKeeps", spec := "leafKeeps", unfollowed := true, recurses := true, named := ["plenum/key.allowed"], apart := false, laid := [("plenum/key.allowed", laid_plenum_key_allowed)], narrowed := true }
def LeafKeepsUptoSaid : Prop := leafKeepsUptoRow.holds Tryd.pinned (OpenSpec.upto leafKeepsSpec)

/-- 'plenumlaw07.ValueTexts', WHERE WHAT IT READS IS OF BULK AT MOST 1048576: true; the input reads as it did. -/
def valueTextsUptoRow : OpenClaim := { program := "ytcehgfganjdghaadoor", sum := "42a3fa086e589d57c7ce1c3c5865d712ba1e83815cc08632763fdd085243ac55", func := "plenum/plenumlaw07.ValueTexts", spec := "valueTexts", inPlace := ["internal/bytealg.abigen_runtime_cmpstring"], unfollowed := true, recurses := true, named := ["internal/strconv.uint64pow10", "math/bits.deBruijn32tab", "math/bits.deBruijn64tab"], apart := false, laid := [("math/bits.deBruijn32tab", laid_math_bits_deBruijn32tab), ("math/bits.deBruijn64tab", laid_math_bits_deBruijn64tab), ("internal/strconv.uint64pow10", laid_internal_strconv_uint64pow10)], narrowed := true }
def ValueTextsUptoSaid : Prop := valueTextsUptoRow.holds Tryd.pinned (OpenSpec.upto valueTextsSpec)

end Rows
end Go.Proofs.YtcehgfganjdghaaDoor
