/-
  DERIVED. GIVEN WITH THE SEED: THE CARDS: each row of YtmjedjhkhjiigaaDoorRows.lean that lists a variable, with what it lists TIED to the program's text (the seventh form; the later family's looks); each row that meets fmt, with fmt's text TOLD by the authors' own Lean function (tested against real Go, not proved from fmt's source: count such statements apart). THE CARD IS WHAT COUNTS. Prove the row's statement (the work); the ties are given (YtmjedjhkhjiigaaDoorTie.lean); close each card by the builder's one call (the guide's Derived/Test/ToyasCard.lean, 'card_holds'). Laid BY PROGRAM, IN A SANDBOX (cutbox-door.mjs). By AI agents, Wed Nov 11 2026. No macro, syntax, notation, axiom, sorry.
-/
import Derived.Test.YtmjedjhkhjiigaaDoorRows
import GoSem.ClaimSeven
namespace Go.Proofs.YtmjedjhkhjiigaaDoor
namespace Rows

/-- THE TIED CARD OF 'plenumlaw10.TrunkTells'. -/
def trunkTellsCard : Claim7 := { stood := { row := trunkTellsRow, standIns := [], harness := (true, "aaf25e7254709b08d3e3b1cffec478fe038c36bf3f6d64be91a2e4eabef83440"), looks := false }, kinds := [], alts := [], laidByText := true, laidKinds := [.data], laidTests := true, laidLooks := .later }
def TrunkTellsCardSaid : Prop := Claim7.holds Tryd.pinned (.plain (OpenSpec.ofChange trunkTellsSpec)) trunkTellsCard

/-- THE TIED CARD OF 'plenumlaw10.TrunkDoes'. -/
def trunkDoesCard : Claim7 := { stood := { row := trunkDoesRow, standIns := [], harness := (true, "aaf25e7254709b08d3e3b1cffec478fe038c36bf3f6d64be91a2e4eabef83440"), looks := false }, kinds := [], alts := [], laidByText := true, laidKinds := [.data], laidTests := true, laidLooks := .later }
def TrunkDoesCardSaid : Prop := Claim7.holds Tryd.pinned (.plain (OpenSpec.ofChange trunkDoesSpec)) trunkDoesCard

/-- THE TIED CARD OF 'plenumlaw10.TrunkReplaces'. -/
def trunkReplacesCard : Claim7 := { stood := { row := trunkReplacesRow, standIns := [], harness := (true, "aaf25e7254709b08d3e3b1cffec478fe038c36bf3f6d64be91a2e4eabef83440"), looks := false }, kinds := [], alts := [], laidByText := true, laidKinds := [.data], laidTests := true, laidLooks := .later }
def TrunkReplacesCardSaid : Prop := Claim7.holds Tryd.pinned (.plain (OpenSpec.ofChange trunkReplacesSpec)) trunkReplacesCard

/-- THE TIED CARD OF 'plenumlaw10.TrunkKeeps'. -/
def trunkKeepsCard : Claim7 := { stood := { row := trunkKeepsRow, standIns := [], harness := (true, "aaf25e7254709b08d3e3b1cffec478fe038c36bf3f6d64be91a2e4eabef83440"), looks := false }, kinds := [], alts := [], laidByText := true, laidKinds := [.data], laidTests := true, laidLooks := .later }
def TrunkKeepsCardSaid : Prop := Claim7.holds Tryd.pinned (.plain (OpenSpec.ofChange trunkKeepsSpec)) trunkKeepsCard

/-- THE TIED CARD OF 'plenumlaw11.SpanScans'. -/
def spanScansCard : Claim7 := { stood := { row := spanScansRow, standIns := [], harness := (true, "aaf25e7254709b08d3e3b1cffec478fe038c36bf3f6d64be91a2e4eabef83440"), looks := false }, kinds := [], alts := [], laidByText := true, laidKinds := [.data], laidTests := true, laidLooks := .later }
def SpanScansCardSaid : Prop := Claim7.holds Tryd.pinned (.plain (OpenSpec.ofChange spanScansSpec)) spanScansCard

/-- THE TIED CARD OF 'plenumlaw11.SpanEnds'. -/
def spanEndsCard : Claim7 := { stood := { row := spanEndsRow, standIns := [], harness := (true, "aaf25e7254709b08d3e3b1cffec478fe038c36bf3f6d64be91a2e4eabef83440"), looks := false }, kinds := [], alts := [], laidByText := true, laidKinds := [.data], laidTests := true, laidLooks := .later }
def SpanEndsCardSaid : Prop := Claim7.holds Tryd.pinned (.plain (OpenSpec.ofChange spanEndsSpec)) spanEndsCard

/-- THE TIED CARD OF 'plenumlaw11.SpanUnder'. -/
def spanUnderCard : Claim7 := { stood := { row := spanUnderRow, standIns := [], harness := (true, "aaf25e7254709b08d3e3b1cffec478fe038c36bf3f6d64be91a2e4eabef83440"), looks := false }, kinds := [], alts := [], laidByText := true, laidKinds := [.data], laidTests := true, laidLooks := .later }
def SpanUnderCardSaid : Prop := Claim7.holds Tryd.pinned (.plain (OpenSpec.ofChange spanUnderSpec)) spanUnderCard

/-- THE TIED CARD OF 'plenumlaw11.SpanParts'. -/
def spanPartsCard : Claim7 := { stood := { row := spanPartsRow, standIns := [], harness := (true, "aaf25e7254709b08d3e3b1cffec478fe038c36bf3f6d64be91a2e4eabef83440"), looks := false }, kinds := [], alts := [], laidByText := true, laidKinds := [.data], laidTests := true, laidLooks := .later }
def SpanPartsCardSaid : Prop := Claim7.holds Tryd.pinned (.plain (OpenSpec.ofChange spanPartsSpec)) spanPartsCard

/-- THE SECOND FORM's CARD OF 'plenumlaw10.TrunkTells'. -/
def trunkTellsUptoCard : Claim7 := { stood := { row := trunkTellsUptoRow, standIns := [], harness := (true, "aaf25e7254709b08d3e3b1cffec478fe038c36bf3f6d64be91a2e4eabef83440"), looks := false }, kinds := [], alts := [], laidByText := true, laidKinds := [.data], laidTests := true, laidLooks := .later }
def TrunkTellsUptoCardSaid : Prop := Claim7.holds Tryd.pinned (.plain (OpenSpec.upto trunkTellsSpec)) trunkTellsUptoCard

/-- THE SECOND FORM's CARD OF 'plenumlaw10.TrunkDoes'. -/
def trunkDoesUptoCard : Claim7 := { stood := { row := trunkDoesUptoRow, standIns := [], harness := (true, "aaf25e7254709b08d3e3b1cffec478fe038c36bf3f6d64be91a2e4eabef83440"), looks := false }, kinds := [], alts := [], laidByText := true, laidKinds := [.data], laidTests := true, laidLooks := .later }
def TrunkDoesUptoCardSaid : Prop := Claim7.holds Tryd.pinned (.plain (OpenSpec.upto trunkDoesSpec)) trunkDoesUptoCard

/-- THE SECOND FORM's CARD OF 'plenumlaw10.TrunkReplaces'. -/
def trunkReplacesUptoCard : Claim7 := { stood := { row := trunkReplacesUptoRow, standIns := [], harness := (true, "aaf25e7254709b08d3e3b1cffec478fe038c36bf3f6d64be91a2e4eabef83440"), looks := false }, kinds := [], alts := [], laidByText := true, laidKinds := [.data], laidTests := true, laidLooks := .later }
def TrunkReplacesUptoCardSaid : Prop := Claim7.holds Tryd.pinned (.plain (OpenSpec.upto trunkReplacesSpec)) trunkReplacesUptoCard

/-- THE SECOND FORM's CARD OF 'plenumlaw10.TrunkKeeps'. -/
def trunkKeepsUptoCard : Claim7 := { stood := { row := trunkKeepsUptoRow, standIns := [], harness := (true, "aaf25e7254709b08d3e3b1cffec478fe038c36bf3f6d64be91a2e4eabef83440"), looks := false }, kinds := [], alts := [], laidByText := true, laidKinds := [.data], laidTests := true, laidLooks := .later }
def TrunkKeepsUptoCardSaid : Prop := Claim7.holds Tryd.pinned (.plain (OpenSpec.upto trunkKeepsSpec)) trunkKeepsUptoCard

/-- THE SECOND FORM's CARD OF 'plenumlaw11.SpanScans'. -/
def spanScansUptoCard : Claim7 := { stood := { row := spanScansUptoRow, standIns := [], harness := (true, "aaf25e7254709b08d3e3b1cffec478fe038c36bf3f6d64be91a2e4eabef83440"), looks := false }, kinds := [], alts := [], laidByText := true, laidKinds := [.data], laidTests := true, laidLooks := .later }
def SpanScansUptoCardSaid : Prop := Claim7.holds Tryd.pinned (.plain (OpenSpec.upto spanScansSpec)) spanScansUptoCard

/-- THE SECOND FORM's CARD OF 'plenumlaw11.SpanEnds'. -/
def spanEndsUptoCard : Claim7 := { stood := { row := spanEndsUptoRow, standIns := [], harness := (true, "aaf25e7254709b08d3e3b1cffec478fe038c36bf3f6d64be91a2e4eabef83440"), looks := false }, kinds := [], alts := [], laidByText := true, laidKinds := [.data], laidTests := true, laidLooks := .later }
def SpanEndsUptoCardSaid : Prop := Claim7.holds Tryd.pinned (.plain (OpenSpec.upto spanEndsSpec)) spanEndsUptoCard

/-- THE SECOND FORM's CARD OF 'plenumlaw11.SpanUnder'. -/
def spanUnderUptoCard : Claim7 := { stood := { row := spanUnderUptoRow, standIns := [], harness := (true, "aaf25e7254709b08d3e3b1cffec478fe038c36bf3f6d64be91a2e4eabef83440"), looks := false }, kinds := [], alts := [], laidByText := true, laidKinds := [.data], laidTests := true, laidLooks := .later }
def SpanUnderUptoCardSaid : Prop := Claim7.holds Tryd.pinned (.plain (OpenSpec.upto spanUnderSpec)) spanUnderUptoCard

/-- THE SECOND FORM's CARD OF 'plenumlaw11.SpanParts'. -/
def spanPartsUptoCard : Claim7 := { stood := { row := spanPartsUptoRow, standIns := [], harness := (true, "aaf25e7254709b08d3e3b1cffec478fe038c36bf3f6d64be91a2e4eabef83440"), looks := false }, kinds := [], alts := [], laidByText := true, laidKinds := [.data], laidTests := true, laidLooks := .later }
def SpanPartsUptoCardSaid : Prop := Claim7.holds Tryd.pinned (.plain (OpenSpec.upto spanPartsSpec)) spanPartsUptoCard
end Rows
end Go.Proofs.YtmjedjhkhjiigaaDoor
