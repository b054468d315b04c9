/-
  DERIVED. GIVEN WITH THE SEED: THE CARDS: each row of YtbdfcgffkonbiaaGreatDoorRows.lean that lists a variable, with what it lists TIED to the program's text (the seventh form; the later family's looks); each row that meets fmt, with fmt's text TOLD by the authors' own Lean function (tested against real Go, not proved from fmt's source: count such statements apart). THE CARD IS WHAT COUNTS. Prove the row's statement (the work); the ties are given (YtbdfcgffkonbiaaGreatDoorTie.lean); close each card by the builder's one call (the guide's Derived/Test/ToyasCard.lean, 'card_holds'). Laid BY PROGRAM, IN A SANDBOX (cutbox-door.mjs). By AI agents, Wed Nov 11 2026. No macro, syntax, notation, axiom, sorry.
-/
import Derived.Test.YtbdfcgffkonbiaaGreatDoorRows
import GoSem.ClaimSeven
namespace Go.Proofs.YtbdfcgffkonbiaaGreatDoor
namespace Rows

/-- THE TIED CARD OF 'plenumlaw11.SpanSums'. -/
def spanSumsCard : Claim7 := { stood := { row := spanSumsRow, standIns := [], harness := (true, "dec04a7e99505c37ede4ec0d1f9099d02a26911b094e734dbf97ee47931b0f6d"), looks := false }, kinds := [], alts := [], laidByText := true, laidKinds := [.data], laidTests := true, laidLooks := .later }
def SpanSumsCardSaid : Prop := Claim7.holds Tryz.pinned (.plain (OpenSpec.ofChange spanSumsSpec)) spanSumsCard

/-- THE SECOND FORM's CARD OF 'plenumlaw11.SpanSums'. -/
def spanSumsUptoCard : Claim7 := { stood := { row := spanSumsUptoRow, standIns := [], harness := (true, "dec04a7e99505c37ede4ec0d1f9099d02a26911b094e734dbf97ee47931b0f6d"), looks := false }, kinds := [], alts := [], laidByText := true, laidKinds := [.data], laidTests := true, laidLooks := .later }
def SpanSumsUptoCardSaid : Prop := Claim7.holds Tryz.pinned (.plain (OpenSpec.upto spanSumsSpec)) spanSumsUptoCard
end Rows
end Go.Proofs.YtbdfcgffkonbiaaGreatDoor
