/-
  DERIVED. GIVEN WITH THE SEED: THE CARDS: each row of YtlhdbggjablofaaDoorRows.lean that lists a variable, with what it lists TIED to the program's text (the seventh form; the later family's looks); each row that meets fmt, with fmt's text TOLD by the authors' own Lean function (tested against real Go, not proved from fmt's source: count such statements apart). THE CARD IS WHAT COUNTS. Prove the row's statement (the work); the ties are given (YtlhdbggjablofaaDoorTie.lean); close each card by the builder's one call (the guide's Derived/Test/ToyasCard.lean, 'card_holds'). Laid BY PROGRAM, IN A SANDBOX (cutbox-door.mjs). By AI agents, Wed Nov 11 2026. No macro, syntax, notation, axiom, sorry.
-/
import Derived.Test.YtlhdbggjablofaaDoorRows
import GoSem.ClaimSeven
namespace Go.Proofs.YtlhdbggjablofaaDoor
namespace Rows

/-- THE TIED CARD OF 'plenumlaw05.QuorumSizes'. -/
def quorumSizesCard : Claim7 := { stood := { row := quorumSizesRow, standIns := [], harness := (true, "6b5005b7a1cb1b40f4d9b2ef73e1aae62f1ea5d788b12a6171fb397a7b2046da"), looks := false }, kinds := [], alts := [], laidByText := true, laidKinds := [.data], laidTests := true, laidLooks := .later }
def QuorumSizesCardSaid : Prop := Claim7.holds Tryd.pinned (.plain (OpenSpec.ofChange quorumSizesSpec)) quorumSizesCard

/-- THE TIED CARD OF 'plenumlaw05.QuorumSets'. -/
def quorumSetsCard : Claim7 := { stood := { row := quorumSetsRow, standIns := [], harness := (true, "6b5005b7a1cb1b40f4d9b2ef73e1aae62f1ea5d788b12a6171fb397a7b2046da"), looks := false }, kinds := [], alts := [], laidByText := true, laidKinds := [.data], laidTests := true, laidLooks := .later }
def QuorumSetsCardSaid : Prop := Claim7.holds Tryd.pinned (.plain (OpenSpec.ofChange quorumSetsSpec)) quorumSetsCard

/-- THE TIED CARD OF 'plenumlaw05.QuorumOf'. -/
def quorumOfCard : Claim7 := { stood := { row := quorumOfRow, standIns := [], harness := (true, "6b5005b7a1cb1b40f4d9b2ef73e1aae62f1ea5d788b12a6171fb397a7b2046da"), looks := false }, kinds := [], alts := [], laidByText := true, laidKinds := [.data], laidTests := true, laidLooks := .later }
def QuorumOfCardSaid : Prop := Claim7.holds Tryd.pinned (.plain (OpenSpec.ofChange quorumOfSpec)) quorumOfCard

/-- THE TIED CARD OF 'plenumlaw05.QuorumMeets'. -/
def quorumMeetsCard : Claim7 := { stood := { row := quorumMeetsRow, standIns := [], harness := (true, "6b5005b7a1cb1b40f4d9b2ef73e1aae62f1ea5d788b12a6171fb397a7b2046da"), looks := false }, kinds := [], alts := [], laidByText := true, laidKinds := [.data], laidTests := true, laidLooks := .later }
def QuorumMeetsCardSaid : Prop := Claim7.holds Tryd.pinned (.plain (OpenSpec.ofChange quorumMeetsSpec)) quorumMeetsCard

/-- THE SECOND FORM's CARD OF 'plenumlaw05.QuorumSizes'. -/
def quorumSizesUptoCard : Claim7 := { stood := { row := quorumSizesUptoRow, standIns := [], harness := (true, "6b5005b7a1cb1b40f4d9b2ef73e1aae62f1ea5d788b12a6171fb397a7b2046da"), looks := false }, kinds := [], alts := [], laidByText := true, laidKinds := [.data], laidTests := true, laidLooks := .later }
def QuorumSizesUptoCardSaid : Prop := Claim7.holds Tryd.pinned (.plain (OpenSpec.upto quorumSizesSpec)) quorumSizesUptoCard

/-- THE SECOND FORM's CARD OF 'plenumlaw05.QuorumSets'. -/
def quorumSetsUptoCard : Claim7 := { stood := { row := quorumSetsUptoRow, standIns := [], harness := (true, "6b5005b7a1cb1b40f4d9b2ef73e1aae62f1ea5d788b12a6171fb397a7b2046da"), looks := false }, kinds := [], alts := [], laidByText := true, laidKinds := [.data], laidTests := true, laidLooks := .later }
def QuorumSetsUptoCardSaid : Prop := Claim7.holds Tryd.pinned (.plain (OpenSpec.upto quorumSetsSpec)) quorumSetsUptoCard

/-- THE SECOND FORM's CARD OF 'plenumlaw05.QuorumOf'. -/
def quorumOfUptoCard : Claim7 := { stood := { row := quorumOfUptoRow, standIns := [], harness := (true, "6b5005b7a1cb1b40f4d9b2ef73e1aae62f1ea5d788b12a6171fb397a7b2046da"), looks := false }, kinds := [], alts := [], laidByText := true, laidKinds := [.data], laidTests := true, laidLooks := .later }
def QuorumOfUptoCardSaid : Prop := Claim7.holds Tryd.pinned (.plain (OpenSpec.upto quorumOfSpec)) quorumOfUptoCard

/-- THE SECOND FORM's CARD OF 'plenumlaw05.QuorumMeets'. -/
def quorumMeetsUptoCard : Claim7 := { stood := { row := quorumMeetsUptoRow, standIns := [], harness := (true, "6b5005b7a1cb1b40f4d9b2ef73e1aae62f1ea5d788b12a6171fb397a7b2046da"), looks := false }, kinds := [], alts := [], laidByText := true, laidKinds := [.data], laidTests := true, laidLooks := .later }
def QuorumMeetsUptoCardSaid : Prop := Claim7.holds Tryd.pinned (.plain (OpenSpec.upto quorumMeetsSpec)) quorumMeetsUptoCard
end Rows
end Go.Proofs.YtlhdbggjablofaaDoor
