/-
  DERIVED. GIVEN WITH THE SEED: THE CARDS: each row of YtoagdmglchccnaaGreatDoorRows.lean that lists a variable, with what it lists TIED to the program's text (the seventh form; the later family's looks); each row that meets fmt, with fmt's text TOLD by the authors' own Lean function (tested against real Go, not proved from fmt's source: count such statements apart). THE CARD IS WHAT COUNTS. Prove the row's statement (the work); the ties are given (YtoagdmglchccnaaGreatDoorTie.lean); close each card by the builder's one call (the guide's Derived/Test/ToyasCard.lean, 'card_holds'). Laid BY PROGRAM, IN A SANDBOX (cutbox-door.mjs). By AI agents, Wed Nov 11 2026. No macro, syntax, notation, axiom, sorry.
-/
import Derived.Test.YtoagdmglchccnaaGreatDoorRows
import GoSem.ClaimSeven
namespace Go.Proofs.YtoagdmglchccnaaGreatDoor
namespace Rows

/-- THE TIED CARD OF 'plenumlaw12.RootTells'. -/
def rootTellsCard : Claim7 := { stood := { row := rootTellsRow, standIns := [], harness := (true, "ed5ba5408bb5e3a132edf0568de2e07368ef15691f14869969d2d9149d761cf0"), looks := true }, kinds := [], alts := [], laidByText := true, laidKinds := [.data, .data, .data, .sentinel, .sentinel, .data], laidTests := true, laidLooks := .later }
def RootTellsCardSaid : Prop := Claim7.holds Tryz.pinned (.plain (OpenSpec.ofChange rootTellsSpec)) rootTellsCard

/-- THE TIED CARD OF 'plenumlaw12.RootReads'. -/
def rootReadsCard : Claim7 := { stood := { row := rootReadsRow, standIns := [], harness := (true, "ed5ba5408bb5e3a132edf0568de2e07368ef15691f14869969d2d9149d761cf0"), looks := true }, kinds := [], alts := [], laidByText := true, laidKinds := [.data, .data, .data, .sentinel, .sentinel, .data], laidTests := true, laidLooks := .later }
def RootReadsCardSaid : Prop := Claim7.holds Tryz.pinned (.plain (OpenSpec.ofChange rootReadsSpec)) rootReadsCard

/-- THE TIED CARD OF 'plenumlaw15.ParcelTells'. -/
def parcelTellsCard : Claim7 := { stood := { row := parcelTellsRow, standIns := [], harness := (true, "ed5ba5408bb5e3a132edf0568de2e07368ef15691f14869969d2d9149d761cf0"), looks := true }, kinds := [], alts := [], laidByText := true, laidKinds := [.data, .data, .data, .data], laidTests := true, laidLooks := .later }
def ParcelTellsCardSaid : Prop := Claim7.holds Tryz.pinned (.plain (OpenSpec.ofChange parcelTellsSpec)) parcelTellsCard

/-- THE TIED CARD OF 'plenumlaw15.ParcelTakes'. -/
def parcelTakesCard : Claim7 := { stood := { row := parcelTakesRow, standIns := [], harness := (true, "ed5ba5408bb5e3a132edf0568de2e07368ef15691f14869969d2d9149d761cf0"), looks := true }, kinds := [], alts := [], laidByText := true, laidKinds := [.data, .data, .data, .data], laidTests := true, laidLooks := .later }
def ParcelTakesCardSaid : Prop := Claim7.holds Tryz.pinned (.plain (OpenSpec.ofChange parcelTakesSpec)) parcelTakesCard

/-- THE TIED CARD OF 'plenumlaw15.ParcelWhole'. -/
def parcelWholeCard : Claim7 := { stood := { row := parcelWholeRow, standIns := [], harness := (true, "ed5ba5408bb5e3a132edf0568de2e07368ef15691f14869969d2d9149d761cf0"), looks := true }, kinds := [], alts := [], laidByText := true, laidKinds := [.data, .data, .data, .data], laidTests := true, laidLooks := .later }
def ParcelWholeCardSaid : Prop := Claim7.holds Tryz.pinned (.plain (OpenSpec.ofChange parcelWholeSpec)) parcelWholeCard

/-- THE SECOND FORM's CARD OF 'plenumlaw12.RootTells'. -/
def rootTellsUptoCard : Claim7 := { stood := { row := rootTellsUptoRow, standIns := [], harness := (true, "ed5ba5408bb5e3a132edf0568de2e07368ef15691f14869969d2d9149d761cf0"), looks := true }, kinds := [], alts := [], laidByText := true, laidKinds := [.data, .data, .data, .sentinel, .sentinel, .data], laidTests := true, laidLooks := .later }
def RootTellsUptoCardSaid : Prop := Claim7.holds Tryz.pinned (.plain (OpenSpec.upto rootTellsSpec)) rootTellsUptoCard

/-- THE SECOND FORM's CARD OF 'plenumlaw12.RootReads'. -/
def rootReadsUptoCard : Claim7 := { stood := { row := rootReadsUptoRow, standIns := [], harness := (true, "ed5ba5408bb5e3a132edf0568de2e07368ef15691f14869969d2d9149d761cf0"), looks := true }, kinds := [], alts := [], laidByText := true, laidKinds := [.data, .data, .data, .sentinel, .sentinel, .data], laidTests := true, laidLooks := .later }
def RootReadsUptoCardSaid : Prop := Claim7.holds Tryz.pinned (.plain (OpenSpec.upto rootReadsSpec)) rootReadsUptoCard

/-- THE SECOND FORM's CARD OF 'plenumlaw15.ParcelTells'. -/
def parcelTellsUptoCard : Claim7 := { stood := { row := parcelTellsUptoRow, standIns := [], harness := (true, "ed5ba5408bb5e3a132edf0568de2e07368ef15691f14869969d2d9149d761cf0"), looks := true }, kinds := [], alts := [], laidByText := true, laidKinds := [.data, .data, .data, .data], laidTests := true, laidLooks := .later }
def ParcelTellsUptoCardSaid : Prop := Claim7.holds Tryz.pinned (.plain (OpenSpec.upto parcelTellsSpec)) parcelTellsUptoCard

/-- THE SECOND FORM's CARD OF 'plenumlaw15.ParcelTakes'. -/
def parcelTakesUptoCard : Claim7 := { stood := { row := parcelTakesUptoRow, standIns := [], harness := (true, "ed5ba5408bb5e3a132edf0568de2e07368ef15691f14869969d2d9149d761cf0"), looks := true }, kinds := [], alts := [], laidByText := true, laidKinds := [.data, .data, .data, .data], laidTests := true, laidLooks := .later }
def ParcelTakesUptoCardSaid : Prop := Claim7.holds Tryz.pinned (.plain (OpenSpec.upto parcelTakesSpec)) parcelTakesUptoCard

/-- THE SECOND FORM's CARD OF 'plenumlaw15.ParcelWhole'. -/
def parcelWholeUptoCard : Claim7 := { stood := { row := parcelWholeUptoRow, standIns := [], harness := (true, "ed5ba5408bb5e3a132edf0568de2e07368ef15691f14869969d2d9149d761cf0"), looks := true }, kinds := [], alts := [], laidByText := true, laidKinds := [.data, .data, .data, .data], laidTests := true, laidLooks := .later }
def ParcelWholeUptoCardSaid : Prop := Claim7.holds Tryz.pinned (.plain (OpenSpec.upto parcelWholeSpec)) parcelWholeUptoCard
end Rows
end Go.Proofs.YtoagdmglchccnaaGreatDoor
