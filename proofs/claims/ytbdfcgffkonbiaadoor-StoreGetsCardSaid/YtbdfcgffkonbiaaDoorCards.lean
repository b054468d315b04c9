/-
  DERIVED. GIVEN WITH THE SEED: THE CARDS: each row of YtbdfcgffkonbiaaDoorRows.lean that lists a variable, with what it lists TIED to the program's text (the seventh form; the later family's looks); each row that meets fmt, with fmt's text TOLD by the authors' own Lean function (tested against real Go, not proved from fmt's source: count such statements apart). THE CARD IS WHAT COUNTS. Prove the row's statement (the work); the ties are given (YtbdfcgffkonbiaaDoorTie.lean); close each card by the builder's one call (the guide's Derived/Test/ToyasCard.lean, 'card_holds'). Laid BY PROGRAM, IN A SANDBOX (cutbox-door.mjs). By AI agents, Wed Nov 11 2026. No macro, syntax, notation, axiom, sorry.
-/
import Derived.Test.YtbdfcgffkonbiaaDoorRows
import GoSem.ClaimSeven
namespace Go.Proofs.YtbdfcgffkonbiaaDoor
namespace Rows

/-- THE TIED CARD OF 'plenumlaw13.StoreNews'. -/
def storeNewsCard : Claim7 := { stood := { row := storeNewsRow, standIns := [], harness := (true, "1df1056766629f340cb25a831dca1f94b7964b140b47022dc50470be139e341a"), looks := true }, kinds := [], alts := [], laidByText := true, laidKinds := [.data], laidTests := true, laidLooks := .later }
def StoreNewsCardSaid : Prop := Claim7.holds Tryd.pinned (.plain (OpenSpec.ofChange storeNewsSpec)) storeNewsCard

/-- THE TIED CARD OF 'plenumlaw13.StoreGets'. -/
def storeGetsCard : Claim7 := { stood := { row := storeGetsRow, standIns := [], harness := (true, "1df1056766629f340cb25a831dca1f94b7964b140b47022dc50470be139e341a"), looks := true }, kinds := [], alts := [], laidByText := true, laidKinds := [.data], laidTests := true, laidLooks := .later }
def StoreGetsCardSaid : Prop := Claim7.holds Tryd.pinned (.plain (OpenSpec.ofChange storeGetsSpec)) storeGetsCard

/-- THE TIED CARD OF 'plenumlaw13.StoreTakes'. -/
def storeTakesCard : Claim7 := { stood := { row := storeTakesRow, standIns := [], harness := (true, "1df1056766629f340cb25a831dca1f94b7964b140b47022dc50470be139e341a"), looks := true }, kinds := [], alts := [], laidByText := true, laidKinds := [.data], laidTests := true, laidLooks := .later }
def StoreTakesCardSaid : Prop := Claim7.holds Tryd.pinned (.plain (OpenSpec.ofChange storeTakesSpec)) storeTakesCard

/-- THE TIED CARD OF 'plenumlaw13.StoreUndoes'. -/
def storeUndoesCard : Claim7 := { stood := { row := storeUndoesRow, standIns := [], harness := (true, "1df1056766629f340cb25a831dca1f94b7964b140b47022dc50470be139e341a"), looks := true }, kinds := [], alts := [], laidByText := true, laidKinds := [.data], laidTests := true, laidLooks := .later }
def StoreUndoesCardSaid : Prop := Claim7.holds Tryd.pinned (.plain (OpenSpec.ofChange storeUndoesSpec)) storeUndoesCard

/-- THE TIED CARD OF 'plenumlaw13.StoreAll'. -/
def storeAllCard : Claim7 := { stood := { row := storeAllRow, standIns := [], harness := (true, "1df1056766629f340cb25a831dca1f94b7964b140b47022dc50470be139e341a"), looks := true }, kinds := [], alts := [], laidByText := true, laidKinds := [.data], laidTests := true, laidLooks := .later }
def StoreAllCardSaid : Prop := Claim7.holds Tryd.pinned (.plain (OpenSpec.ofChange storeAllSpec)) storeAllCard

/-- THE TIED CARD OF 'plenumlaw14.SnapChecks'. -/
def snapChecksCard : Claim7 := { stood := { row := snapChecksRow, standIns := [], harness := (true, "1df1056766629f340cb25a831dca1f94b7964b140b47022dc50470be139e341a"), looks := true }, kinds := [], alts := [], laidByText := true, laidKinds := [.data], laidTests := true, laidLooks := .later }
def SnapChecksCardSaid : Prop := Claim7.holds Tryd.pinned (.plain (OpenSpec.ofChange snapChecksSpec)) snapChecksCard

/-- THE TIED CARD OF 'plenumlaw14.SnapKeeps'. -/
def snapKeepsCard : Claim7 := { stood := { row := snapKeepsRow, standIns := [], harness := (true, "1df1056766629f340cb25a831dca1f94b7964b140b47022dc50470be139e341a"), looks := true }, kinds := [], alts := [], laidByText := true, laidKinds := [.data], laidTests := true, laidLooks := .later }
def SnapKeepsCardSaid : Prop := Claim7.holds Tryd.pinned (.plain (OpenSpec.ofChange snapKeepsSpec)) snapKeepsCard

/-- THE TIED CARD OF 'plenumlaw14.SnapFinds'. -/
def snapFindsCard : Claim7 := { stood := { row := snapFindsRow, standIns := [], harness := (true, "1df1056766629f340cb25a831dca1f94b7964b140b47022dc50470be139e341a"), looks := true }, kinds := [], alts := [], laidByText := true, laidKinds := [.data], laidTests := true, laidLooks := .later }
def SnapFindsCardSaid : Prop := Claim7.holds Tryd.pinned (.plain (OpenSpec.ofChange snapFindsSpec)) snapFindsCard

/-- THE TIED CARD OF 'plenumlaw14.SnapDrops'. -/
def snapDropsCard : Claim7 := { stood := { row := snapDropsRow, standIns := [], harness := (true, "1df1056766629f340cb25a831dca1f94b7964b140b47022dc50470be139e341a"), looks := true }, kinds := [], alts := [], laidByText := true, laidKinds := [.data], laidTests := true, laidLooks := .later }
def SnapDropsCardSaid : Prop := Claim7.holds Tryd.pinned (.plain (OpenSpec.ofChange snapDropsSpec)) snapDropsCard

/-- THE TIED CARD OF 'plenumlaw14.SnapStays'. -/
def snapStaysCard : Claim7 := { stood := { row := snapStaysRow, standIns := [], harness := (true, "1df1056766629f340cb25a831dca1f94b7964b140b47022dc50470be139e341a"), looks := true }, kinds := [], alts := [], laidByText := true, laidKinds := [.data], laidTests := true, laidLooks := .later }
def SnapStaysCardSaid : Prop := Claim7.holds Tryd.pinned (.plain (OpenSpec.ofChange snapStaysSpec)) snapStaysCard

/-- THE SECOND FORM's CARD OF 'plenumlaw13.StoreNews'. -/
def storeNewsUptoCard : Claim7 := { stood := { row := storeNewsUptoRow, standIns := [], harness := (true, "1df1056766629f340cb25a831dca1f94b7964b140b47022dc50470be139e341a"), looks := true }, kinds := [], alts := [], laidByText := true, laidKinds := [.data], laidTests := true, laidLooks := .later }
def StoreNewsUptoCardSaid : Prop := Claim7.holds Tryd.pinned (.plain (OpenSpec.upto storeNewsSpec)) storeNewsUptoCard

/-- THE SECOND FORM's CARD OF 'plenumlaw13.StoreGets'. -/
def storeGetsUptoCard : Claim7 := { stood := { row := storeGetsUptoRow, standIns := [], harness := (true, "1df1056766629f340cb25a831dca1f94b7964b140b47022dc50470be139e341a"), looks := true }, kinds := [], alts := [], laidByText := true, laidKinds := [.data], laidTests := true, laidLooks := .later }
def StoreGetsUptoCardSaid : Prop := Claim7.holds Tryd.pinned (.plain (OpenSpec.upto storeGetsSpec)) storeGetsUptoCard

/-- THE SECOND FORM's CARD OF 'plenumlaw13.StoreTakes'. -/
def storeTakesUptoCard : Claim7 := { stood := { row := storeTakesUptoRow, standIns := [], harness := (true, "1df1056766629f340cb25a831dca1f94b7964b140b47022dc50470be139e341a"), looks := true }, kinds := [], alts := [], laidByText := true, laidKinds := [.data], laidTests := true, laidLooks := .later }
def StoreTakesUptoCardSaid : Prop := Claim7.holds Tryd.pinned (.plain (OpenSpec.upto storeTakesSpec)) storeTakesUptoCard

/-- THE SECOND FORM's CARD OF 'plenumlaw13.StoreUndoes'. -/
def storeUndoesUptoCard : Claim7 := { stood := { row := storeUndoesUptoRow, standIns := [], harness := (true, "1df1056766629f340cb25a831dca1f94b7964b140b47022dc50470be139e341a"), looks := true }, kinds := [], alts := [], laidByText := true, laidKinds := [.data], laidTests := true, laidLooks := .later }
def StoreUndoesUptoCardSaid : Prop := Claim7.holds Tryd.pinned (.plain (OpenSpec.upto storeUndoesSpec)) storeUndoesUptoCard

/-- THE SECOND FORM's CARD OF 'plenumlaw13.StoreAll'. -/
def storeAllUptoCard : Claim7 := { stood := { row := storeAllUptoRow, standIns := [], harness := (true, "1df1056766629f340cb25a831dca1f94b7964b140b47022dc50470be139e341a"), looks := true }, kinds := [], alts := [], laidByText := true, laidKinds := [.data], laidTests := true, laidLooks := .later }
def StoreAllUptoCardSaid : Prop := Claim7.holds Tryd.pinned (.plain (OpenSpec.upto storeAllSpec)) storeAllUptoCard

/-- THE SECOND FORM's CARD OF 'plenumlaw14.SnapChecks'. -/
def snapChecksUptoCard : Claim7 := { stood := { row := snapChecksUptoRow, standIns := [], harness := (true, "1df1056766629f340cb25a831dca1f94b7964b140b47022dc50470be139e341a"), looks := true }, kinds := [], alts := [], laidByText := true, laidKinds := [.data], laidTests := true, laidLooks := .later }
def SnapChecksUptoCardSaid : Prop := Claim7.holds Tryd.pinned (.plain (OpenSpec.upto snapChecksSpec)) snapChecksUptoCard

/-- THE SECOND FORM's CARD OF 'plenumlaw14.SnapKeeps'. -/
def snapKeepsUptoCard : Claim7 := { stood := { row := snapKeepsUptoRow, standIns := [], harness := (true, "1df1056766629f340cb25a831dca1f94b7964b140b47022dc50470be139e341a"), looks := true }, kinds := [], alts := [], laidByText := true, laidKinds := [.data], laidTests := true, laidLooks := .later }
def SnapKeepsUptoCardSaid : Prop := Claim7.holds Tryd.pinned (.plain (OpenSpec.upto snapKeepsSpec)) snapKeepsUptoCard

/-- THE SECOND FORM's CARD OF 'plenumlaw14.SnapFinds'. -/
def snapFindsUptoCard : Claim7 := { stood := { row := snapFindsUptoRow, standIns := [], harness := (true, "1df1056766629f340cb25a831dca1f94b7964b140b47022dc50470be139e341a"), looks := true }, kinds := [], alts := [], laidByText := true, laidKinds := [.data], laidTests := true, laidLooks := .later }
def SnapFindsUptoCardSaid : Prop := Claim7.holds Tryd.pinned (.plain (OpenSpec.upto snapFindsSpec)) snapFindsUptoCard

/-- THE SECOND FORM's CARD OF 'plenumlaw14.SnapDrops'. -/
def snapDropsUptoCard : Claim7 := { stood := { row := snapDropsUptoRow, standIns := [], harness := (true, "1df1056766629f340cb25a831dca1f94b7964b140b47022dc50470be139e341a"), looks := true }, kinds := [], alts := [], laidByText := true, laidKinds := [.data], laidTests := true, laidLooks := .later }
def SnapDropsUptoCardSaid : Prop := Claim7.holds Tryd.pinned (.plain (OpenSpec.upto snapDropsSpec)) snapDropsUptoCard

/-- THE SECOND FORM's CARD OF 'plenumlaw14.SnapStays'. -/
def snapStaysUptoCard : Claim7 := { stood := { row := snapStaysUptoRow, standIns := [], harness := (true, "1df1056766629f340cb25a831dca1f94b7964b140b47022dc50470be139e341a"), looks := true }, kinds := [], alts := [], laidByText := true, laidKinds := [.data], laidTests := true, laidLooks := .later }
def SnapStaysUptoCardSaid : Prop := Claim7.holds Tryd.pinned (.plain (OpenSpec.upto snapStaysSpec)) snapStaysUptoCard
end Rows
end Go.Proofs.YtbdfcgffkonbiaaDoor
