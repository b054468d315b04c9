/-
  NARROWER THAN 'FOR EVERY INPUT', by the rows' own cells (each row's printed sentence says how): ClashPairs: laid · ClashLists: laid · ClashRanks: laid · LocksPlay: laid · LocksGo: laid.
  DERIVED. THE GIVEN ROWS OF THIS SEAT. 5 by the template 'for every input the law returns true; each argument reads behind the call as it read before'; 0 by the template 'total and deterministic' (their statements: YtjmfiekgpoonjaaDoorTotals.lean).
  GIVEN WITH THE SEED: the statements are not yours to turn. If you find one false, say at which input.
  Laid BY PROGRAM, IN A SANDBOX (cutbox-rows.mjs): the forced cells as the released guide's own fill.sh prints them over the translation c43731f40a37ef88… (all of the seat's roots in one cut). By AI agents, Wed Nov 11 2026. No macro, syntax, notation, axiom, sorry.
-/
import Derived.Test.YtjmfiekgpoonjaaDoorChecked
import GoSem.Claim
import GoSem.ClaimJoined
import GoSem.ClaimMapViews
import Derived.JoinedTies
import Derived.KernelRfl
namespace Go.Proofs.YtjmfiekgpoonjaaDoor
/- THE CELL 'sum', in the pinned program and in every row, IS THE sha256 OF THE DUMP (.gsa) THAT YtjmfiekgpoonjaaDoorProg.lean LOADS. Nothing in Lean hashes anything: it is a label: what it is worth is what the hold of that sum in a sandbox is worth. -/
noncomputable def Tryd.pinned : Pinned := { name := "ytjmfiekgpoonjaadoor", sum := "c43731f40a37ef88dd91fe28529f9c0623833a36afccf3de4e5917066e696705", checked := Tryd.checked }
namespace Rows
def none {H : Type} : Left H := { results := [], args := [] }

/- WHAT THE LISTED PACKAGE-LEVEL VARIABLES READ AS WHEN THE CALL BEGINS. Each datum BY PROGRAM (the guide's laid-datum.mjs) off the statement by which the dump's own 'gosem.cut.vars' lays the variable. In a bare row this is a premise. The card (YtjmfiekgpoonjaaDoorCards.lean) ties it to the program's text. -/
def laid_plenum_key_allowed {H : Type} : DataW H := .agg [.lit (.int .u64 288195191779622912), .lit (.int .u64 576460745860972544)]

/-- 'plenumlaw23.ClashPairs': WHATEVER THE INPUT: true; the input reads as it did. -/
def clashPairsSpec : ChangeSpec := { name := "clashPairs", fn := fun _ => fun
  | [d1, d2] => { results := [.lit (.bool true)], args := [d1, d2] }
  | _ => none }
def clashPairsRow : OpenClaim := { program := "ytjmfiekgpoonjaadoor", sum := "c43731f40a37ef88dd91fe28529f9c0623833a36afccf3de4e5917066e696705", func := "plenum/plenumlaw23.ClashPairs", spec := "clashPairs", unfollowed := true, recurses := true, named := ["plenum/key.allowed"], apart := false, laid := [("plenum/key.allowed", laid_plenum_key_allowed)] }
def ClashPairsSaid : Prop := clashPairsRow.holds Tryd.pinned (OpenSpec.ofChange clashPairsSpec)

/-- ITS FALSE NEIGHBOUR: 'it returns false'. Refute it at one input. -/
def clashPairsWrong : ChangeSpec := { name := "clashPairs", fn := fun _ => fun
  | [d1, d2] => { results := [.lit (.bool false)], args := [d1, d2] }
  | _ => none }
def ClashPairsWrongFalsely : Prop := clashPairsRow.holds Tryd.pinned (OpenSpec.ofChange clashPairsWrong)

/-- 'plenumlaw23.ClashLists': WHATEVER THE INPUT: true; the input reads as it did. -/
def clashListsSpec : ChangeSpec := { name := "clashLists", fn := fun _ => fun
  | [d] => { results := [.lit (.bool true)], args := [d] }
  | _ => none }
def clashListsRow : OpenClaim := { program := "ytjmfiekgpoonjaadoor", sum := "c43731f40a37ef88dd91fe28529f9c0623833a36afccf3de4e5917066e696705", func := "plenum/plenumlaw23.ClashLists", spec := "clashLists", unfollowed := true, recurses := true, named := ["plenum/key.allowed"], apart := false, laid := [("plenum/key.allowed", laid_plenum_key_allowed)] }
def ClashListsSaid : Prop := clashListsRow.holds Tryd.pinned (OpenSpec.ofChange clashListsSpec)

/-- ITS FALSE NEIGHBOUR: 'it returns false'. Refute it at one input. -/
def clashListsWrong : ChangeSpec := { name := "clashLists", fn := fun _ => fun
  | [d] => { results := [.lit (.bool false)], args := [d] }
  | _ => none }
def ClashListsWrongFalsely : Prop := clashListsRow.holds Tryd.pinned (OpenSpec.ofChange clashListsWrong)

/-- 'plenumlaw23.ClashRanks': WHATEVER THE INPUT: true; the input reads as it did. -/
def clashRanksSpec : ChangeSpec := { name := "clashRanks", fn := fun _ => fun
  | [d] => { results := [.lit (.bool true)], args := [d] }
  | _ => none }
def clashRanksRow : OpenClaim := { program := "ytjmfiekgpoonjaadoor", sum := "c43731f40a37ef88dd91fe28529f9c0623833a36afccf3de4e5917066e696705", func := "plenum/plenumlaw23.ClashRanks", spec := "clashRanks", unfollowed := true, recurses := true, named := ["plenum/key.allowed"], apart := false, laid := [("plenum/key.allowed", laid_plenum_key_allowed)] }
def ClashRanksSaid : Prop := clashRanksRow.holds Tryd.pinned (OpenSpec.ofChange clashRanksSpec)

/-- ITS FALSE NEIGHBOUR: 'it returns false'. Refute it at one input. -/
def clashRanksWrong : ChangeSpec := { name := "clashRanks", fn := fun _ => fun
  | [d] => { results := [.lit (.bool false)], args := [d] }
  | _ => none }
def ClashRanksWrongFalsely : Prop := clashRanksRow.holds Tryd.pinned (OpenSpec.ofChange clashRanksWrong)

/-- 'plenumlaw24.LocksPlay': WHATEVER THE INPUT: true; the input reads as it did. -/
def locksPlaySpec : ChangeSpec := { name := "locksPlay", fn := fun _ => fun
  | [d1, d2] => { results := [.lit (.bool true)], args := [d1, d2] }
  | _ => none }
def locksPlayRow : OpenClaim := { program := "ytjmfiekgpoonjaadoor", sum := "c43731f40a37ef88dd91fe28529f9c0623833a36afccf3de4e5917066e696705", func := "plenum/plenumlaw24.LocksPlay", spec := "locksPlay", unfollowed := true, recurses := true, named := ["plenum/key.allowed"], apart := false, laid := [("plenum/key.allowed", laid_plenum_key_allowed)] }
def LocksPlaySaid : Prop := locksPlayRow.holds Tryd.pinned (OpenSpec.ofChange locksPlaySpec)

/-- ITS FALSE NEIGHBOUR: 'it returns false'. Refute it at one input. -/
def locksPlayWrong : ChangeSpec := { name := "locksPlay", fn := fun _ => fun
  | [d1, d2] => { results := [.lit (.bool false)], args := [d1, d2] }
  | _ => none }
def LocksPlayWrongFalsely : Prop := locksPlayRow.holds Tryd.pinned (OpenSpec.ofChange locksPlayWrong)

/-- 'plenumlaw24.LocksGo': WHATEVER THE INPUT: true; the input reads as it did. -/
def locksGoSpec : ChangeSpec := { name := "locksGo", fn := fun _ => fun
  | [d1, d2] => { results := [.lit (.bool true)], args := [d1, d2] }
  | _ => none }
def locksGoRow : OpenClaim := { program := "ytjmfiekgpoonjaadoor", sum := "c43731f40a37ef88dd91fe28529f9c0623833a36afccf3de4e5917066e696705", func := "plenum/plenumlaw24.LocksGo", spec := "locksGo", unfollowed := true, recurses := true, named := ["plenum/key.allowed"], apart := false, laid := [("plenum/key.allowed", laid_plenum_key_allowed)] }
def LocksGoSaid : Prop := locksGoRow.holds Tryd.pinned (OpenSpec.ofChange locksGoSpec)

/-- ITS FALSE NEIGHBOUR: 'it returns false'. Refute it at one input. -/
def locksGoWrong : ChangeSpec := { name := "locksGo", fn := fun _ => fun
  | [d1, d2] => { results := [.lit (.bool false)], args := [d1, d2] }
  | _ => none }
def LocksGoWrongFalsely : Prop := locksGoRow.holds Tryd.pinned (OpenSpec.ofChange locksGoWrong)

/- THE SECOND FORM. 'bulk': how many values and letters a reading holds, each counted each time it is reached (what is shared counts as often as it is met; a slice's spare places count too). A statement '..UptoSaid' is the law's where the arguments, and the package variables that the reading takes, are together of bulk at most 1048576: NARROWER than '..Said'. Prove '..Said' where nothing that the law and all that it calls make is longer than what came in: it says more and counts as full. Else prove '..UptoSaid'. A law counts once. -/
mutual
def uptoBulk {H : Type} : DataW H → Nat
  | .lit (.string bytes) => bytes.length + 1
  | .lit _ => 1
  | .nil => 1
  | .ptr d => uptoBulk d + 1
  | .slice elems spare => uptoBulkAll elems + uptoBulkAll spare + 1
  | .agg parts => uptoBulkAll parts + 1
  | .iface _ d => uptoBulk d + 1
  | .map entries => uptoBulkEntries entries + 1
  | .held _ => 1
def uptoBulkAll {H : Type} : List (DataW H) → Nat
  | [] => 0
  | d :: r => uptoBulk d + uptoBulkAll r
def uptoBulkEntries {H : Type} : List (Lit × DataW H) → Nat
  | [] => 0
  | x :: r => uptoBulkEntry x + uptoBulkEntries r
def uptoBulkEntry {H : Type} : Lit × DataW H → Nat
  | (.string bytes, d) => bytes.length + uptoBulk d + 1
  | (_, d) => uptoBulk d + 1
 end
def uptoSmall : (H : Type) → List (DataW H) → Bool := fun _ ds => decide (uptoBulkAll ds ≤ 1048576)
def OpenSpec.upto (s : _root_.Go.ChangeSpec) : _root_.Go.OpenSpec := { _root_.Go.OpenSpec.ofChange s with cond := some uptoSmall }

/-- 'plenumlaw23.ClashPairs', WHERE WHAT IT READS IS OF BULK AT MOST 1048576: true; the input reads as it did. -/
def clashPairsUptoRow : OpenClaim := { program := "ytjmfiekgpoonjaadoor", sum := "c43731f40a37ef88dd91fe28529f9c0623833a36afccf3de4e5917066e696705", func := "plenum/plenumlaw23.ClashPairs", spec := "clashPairs", unfollowed := true, recurses := true, named := ["plenum/key.allowed"], apart := false, laid := [("plenum/key.allowed", laid_plenum_key_allowed)], narrowed := true }
def ClashPairsUptoSaid : Prop := clashPairsUptoRow.holds Tryd.pinned (OpenSpec.upto clashPairsSpec)

/-- 'plenumlaw23.ClashLists', WHERE WHAT IT READS IS OF BULK AT MOST 1048576: true; the input reads as it did. -/
def clashListsUptoRow : OpenClaim := { program := "ytjmfiekgpoonjaadoor", sum := "c43731f40a37ef88dd91fe28529f9c0623833a36afccf3de4e5917066e696705", func := "plenum/plenumlaw23.ClashLists", spec := "clashLists", unfollowed := true, recurses := true, named := ["plenum/key.allowed"], apart := false, laid := [("plenum/key.allowed", laid_plenum_key_allowed)], narrowed := true }
def ClashListsUptoSaid : Prop := clashListsUptoRow.holds Tryd.pinned (OpenSpec.upto clashListsSpec)

/-- 'plenumlaw23.ClashRanks', WHERE WHAT IT READS IS OF BULK AT MOST 1048576: true; the input reads as it did. -/
def clashRanksUptoRow : OpenClaim := { program := "ytjmfiekgpoonjaadoor", sum := "c43731f40a37ef88dd91fe28529f9c0623833a36afccf3de4e5917066e696705", func := "plenum/plenumlaw23.ClashRanks", spec := "clashRanks", unfollowed := true, recurses := true, named := ["plenum/key.allowed"], apart := false, laid := [("plenum/key.allowed", laid_plenum_key_allowed)], narrowed := true }
def ClashRanksUptoSaid : Prop := clashRanksUptoRow.holds Tryd.pinned (OpenSpec.upto clashRanksSpec)

/-- 'plenumlaw24.LocksPlay', WHERE WHAT IT READS IS OF BULK AT MOST 1048576: true; the input reads as it did. -/
def locksPlayUptoRow : OpenClaim := { program := "ytjmfiekgpoonjaadoor", sum := "c43731f40a37ef88dd91fe28529f9c0623833a36afccf3de4e5917066e696705", func := "plenum/plenumlaw24.LocksPlay", spec := "locksPlay", unfollowed := true, recurses := true, named := ["plenum/key.allowed"], apart := false, laid := [("plenum/key.allowed", laid_plenum_key_allowed)], narrowed := true }
def LocksPlayUptoSaid : Prop := locksPlayUptoRow.holds Tryd.pinned (OpenSpec.upto locksPlaySpec)

/-- 'plenumlaw24.LocksGo', WHERE WHAT IT READS IS OF BULK AT MOST 1048576: true; the input reads as it did. -/
def locksGoUptoRow : OpenClaim := { program := "ytjmfiekgpoonjaadoor", sum := "c43731f40a37ef88dd91fe28529f9c0623833a36afccf3de4e5917066e696705", func := "plenum/plenumlaw24.LocksGo", spec := "locksGo", unfollowed := true, recurses := true, named := ["plenum/key.allowed"], apart := false, laid := [("plenum/key.allowed", laid_plenum_key_allowed)], narrowed := true }
def LocksGoUptoSaid : Prop := locksGoUptoRow.holds Tryd.pinned (OpenSpec.upto locksGoSpec)

end Rows
end Go.Proofs.YtjmfiekgpoonjaaDoor
