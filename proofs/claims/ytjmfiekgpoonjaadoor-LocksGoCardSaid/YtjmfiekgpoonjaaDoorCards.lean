/-
  DERIVED. GIVEN WITH THE SEED: THE CARDS: each row of YtjmfiekgpoonjaaDoorRows.lean that lists a variable, with what it lists TIED to the program's text (the seventh form; the later family's looks); each row that meets fmt, with fmt's text TOLD by the authors' own Lean function (tested against real Go, not proved from fmt's source: count such statements apart). THE CARD IS WHAT COUNTS. Prove the row's statement (the work); the ties are given (YtjmfiekgpoonjaaDoorTie.lean); close each card by the builder's one call (the guide's Derived/Test/ToyasCard.lean, 'card_holds'). Laid BY PROGRAM, IN A SANDBOX (cutbox-door.mjs). By AI agents, Wed Nov 11 2026. No macro, syntax, notation, axiom, sorry.
-/
import Derived.Test.YtjmfiekgpoonjaaDoorRows
import GoSem.ClaimSeven
namespace Go.Proofs.YtjmfiekgpoonjaaDoor
namespace Rows

/-- THE TIED CARD OF 'plenumlaw23.ClashPairs'. -/
def clashPairsCard : Claim7 := { stood := { row := clashPairsRow, standIns := [], harness := (true, "011c0c12e5d948619379f14bc043aeeeb3da4b150f66cb5383f4ac067aab1008"), looks := false }, kinds := [], alts := [], laidByText := true, laidKinds := [.data], laidTests := true, laidLooks := .later }
def ClashPairsCardSaid : Prop := Claim7.holds Tryd.pinned (.plain (OpenSpec.ofChange clashPairsSpec)) clashPairsCard

/-- THE TIED CARD OF 'plenumlaw23.ClashLists'. -/
def clashListsCard : Claim7 := { stood := { row := clashListsRow, standIns := [], harness := (true, "011c0c12e5d948619379f14bc043aeeeb3da4b150f66cb5383f4ac067aab1008"), looks := false }, kinds := [], alts := [], laidByText := true, laidKinds := [.data], laidTests := true, laidLooks := .later }
def ClashListsCardSaid : Prop := Claim7.holds Tryd.pinned (.plain (OpenSpec.ofChange clashListsSpec)) clashListsCard

/-- THE TIED CARD OF 'plenumlaw23.ClashRanks'. -/
def clashRanksCard : Claim7 := { stood := { row := clashRanksRow, standIns := [], harness := (true, "011c0c12e5d948619379f14bc043aeeeb3da4b150f66cb5383f4ac067aab1008"), looks := false }, kinds := [], alts := [], laidByText := true, laidKinds := [.data], laidTests := true, laidLooks := .later }
def ClashRanksCardSaid : Prop := Claim7.holds Tryd.pinned (.plain (OpenSpec.ofChange clashRanksSpec)) clashRanksCard

/-- THE TIED CARD OF 'plenumlaw24.LocksPlay'. -/
def locksPlayCard : Claim7 := { stood := { row := locksPlayRow, standIns := [], harness := (true, "011c0c12e5d948619379f14bc043aeeeb3da4b150f66cb5383f4ac067aab1008"), looks := false }, kinds := [], alts := [], laidByText := true, laidKinds := [.data], laidTests := true, laidLooks := .later }
def LocksPlayCardSaid : Prop := Claim7.holds Tryd.pinned (.plain (OpenSpec.ofChange locksPlaySpec)) locksPlayCard

/-- THE TIED CARD OF 'plenumlaw24.LocksGo'. -/
def locksGoCard : Claim7 := { stood := { row := locksGoRow, standIns := [], harness := (true, "011c0c12e5d948619379f14bc043aeeeb3da4b150f66cb5383f4ac067aab1008"), looks := false }, kinds := [], alts := [], laidByText := true, laidKinds := [.data], laidTests := true, laidLooks := .later }
def LocksGoCardSaid : Prop := Claim7.holds Tryd.pinned (.plain (OpenSpec.ofChange locksGoSpec)) locksGoCard

/-- THE SECOND FORM's CARD OF 'plenumlaw23.ClashPairs'. -/
def clashPairsUptoCard : Claim7 := { stood := { row := clashPairsUptoRow, standIns := [], harness := (true, "011c0c12e5d948619379f14bc043aeeeb3da4b150f66cb5383f4ac067aab1008"), looks := false }, kinds := [], alts := [], laidByText := true, laidKinds := [.data], laidTests := true, laidLooks := .later }
def ClashPairsUptoCardSaid : Prop := Claim7.holds Tryd.pinned (.plain (OpenSpec.upto clashPairsSpec)) clashPairsUptoCard

/-- THE SECOND FORM's CARD OF 'plenumlaw23.ClashLists'. -/
def clashListsUptoCard : Claim7 := { stood := { row := clashListsUptoRow, standIns := [], harness := (true, "011c0c12e5d948619379f14bc043aeeeb3da4b150f66cb5383f4ac067aab1008"), looks := false }, kinds := [], alts := [], laidByText := true, laidKinds := [.data], laidTests := true, laidLooks := .later }
def ClashListsUptoCardSaid : Prop := Claim7.holds Tryd.pinned (.plain (OpenSpec.upto clashListsSpec)) clashListsUptoCard

/-- THE SECOND FORM's CARD OF 'plenumlaw23.ClashRanks'. -/
def clashRanksUptoCard : Claim7 := { stood := { row := clashRanksUptoRow, standIns := [], harness := (true, "011c0c12e5d948619379f14bc043aeeeb3da4b150f66cb5383f4ac067aab1008"), looks := false }, kinds := [], alts := [], laidByText := true, laidKinds := [.data], laidTests := true, laidLooks := .later }
def ClashRanksUptoCardSaid : Prop := Claim7.holds Tryd.pinned (.plain (OpenSpec.upto clashRanksSpec)) clashRanksUptoCard

/-- THE SECOND FORM's CARD OF 'plenumlaw24.LocksPlay'. -/
def locksPlayUptoCard : Claim7 := { stood := { row := locksPlayUptoRow, standIns := [], harness := (true, "011c0c12e5d948619379f14bc043aeeeb3da4b150f66cb5383f4ac067aab1008"), looks := false }, kinds := [], alts := [], laidByText := true, laidKinds := [.data], laidTests := true, laidLooks := .later }
def LocksPlayUptoCardSaid : Prop := Claim7.holds Tryd.pinned (.plain (OpenSpec.upto locksPlaySpec)) locksPlayUptoCard

/-- THE SECOND FORM's CARD OF 'plenumlaw24.LocksGo'. -/
def locksGoUptoCard : Claim7 := { stood := { row := locksGoUptoRow, standIns := [], harness := (true, "011c0c12e5d948619379f14bc043aeeeb3da4b150f66cb5383f4ac067aab1008"), looks := false }, kinds := [], alts := [], laidByText := true, laidKinds := [.data], laidTests := true, laidLooks := .later }
def LocksGoUptoCardSaid : Prop := Claim7.holds Tryd.pinned (.plain (OpenSpec.upto locksGoSpec)) locksGoUptoCard
end Rows
end Go.Proofs.YtjmfiekgpoonjaaDoor
