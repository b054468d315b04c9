/-
  DERIVED. GIVEN WITH THE SEED: THE CARDS: each row of YtkcflkgfipfdfaaDoorRows.lean that lists a variable, with what it lists TIED to the program's text (the seventh form; the later family's looks); each row that meets fmt, with fmt's text TOLD by the authors' own Lean function (tested against real Go, not proved from fmt's source: count such statements apart). THE CARD IS WHAT COUNTS. Prove the row's statement (the work); the ties are given (YtkcflkgfipfdfaaDoorTie.lean); close each card by the builder's one call (the guide's Derived/Test/ToyasCard.lean, 'card_holds'). Laid BY PROGRAM, IN A SANDBOX (cutbox-door.mjs). By AI agents, Wed Nov 11 2026. No macro, syntax, notation, axiom, sorry.
-/
import Derived.Test.YtkcflkgfipfdfaaDoorRows
import GoSem.ClaimSeven
namespace Go.Proofs.YtkcflkgfipfdfaaDoor
namespace Rows

/-- THE TIED CARD OF 'plenumlaw08.KeyForms'. -/
def keyFormsCard : Claim7 := { stood := { row := keyFormsRow, standIns := [], harness := (true, "b0300759bb41e295849189a896a620e32056b416548fe2fddf7366a10a34f22c"), looks := false }, kinds := [], alts := [], laidByText := true, laidKinds := [.data], laidTests := true, laidLooks := .later }
def KeyFormsCardSaid : Prop := Claim7.holds Tryd.pinned (.plain (OpenSpec.ofChange keyFormsSpec)) keyFormsCard

/-- THE TIED CARD OF 'plenumlaw08.KeyParts'. -/
def keyPartsCard : Claim7 := { stood := { row := keyPartsRow, standIns := [], harness := (true, "b0300759bb41e295849189a896a620e32056b416548fe2fddf7366a10a34f22c"), looks := false }, kinds := [], alts := [], laidByText := true, laidKinds := [.data], laidTests := true, laidLooks := .later }
def KeyPartsCardSaid : Prop := Claim7.holds Tryd.pinned (.plain (OpenSpec.ofChange keyPartsSpec)) keyPartsCard

/-- THE TIED CARD OF 'plenumlaw08.KeyRanges'. -/
def keyRangesCard : Claim7 := { stood := { row := keyRangesRow, standIns := [], harness := (true, "b0300759bb41e295849189a896a620e32056b416548fe2fddf7366a10a34f22c"), looks := false }, kinds := [], alts := [], laidByText := true, laidKinds := [.data], laidTests := true, laidLooks := .later }
def KeyRangesCardSaid : Prop := Claim7.holds Tryd.pinned (.plain (OpenSpec.ofChange keyRangesSpec)) keyRangesCard

/-- THE TIED CARD OF 'plenumlaw08.KeyMeets'. -/
def keyMeetsCard : Claim7 := { stood := { row := keyMeetsRow, standIns := [], harness := (true, "b0300759bb41e295849189a896a620e32056b416548fe2fddf7366a10a34f22c"), looks := false }, kinds := [], alts := [], laidByText := true, laidKinds := [.data], laidTests := true, laidLooks := .later }
def KeyMeetsCardSaid : Prop := Claim7.holds Tryd.pinned (.plain (OpenSpec.ofChange keyMeetsSpec)) keyMeetsCard

/-- THE TIED CARD OF 'plenumlaw08.KeyUnder'. -/
def keyUnderCard : Claim7 := { stood := { row := keyUnderRow, standIns := [], harness := (true, "b0300759bb41e295849189a896a620e32056b416548fe2fddf7366a10a34f22c"), looks := false }, kinds := [], alts := [], laidByText := true, laidKinds := [.data], laidTests := true, laidLooks := .later }
def KeyUnderCardSaid : Prop := Claim7.holds Tryd.pinned (.plain (OpenSpec.ofChange keyUnderSpec)) keyUnderCard

/-- THE SECOND FORM's CARD OF 'plenumlaw08.KeyForms'. -/
def keyFormsUptoCard : Claim7 := { stood := { row := keyFormsUptoRow, standIns := [], harness := (true, "b0300759bb41e295849189a896a620e32056b416548fe2fddf7366a10a34f22c"), looks := false }, kinds := [], alts := [], laidByText := true, laidKinds := [.data], laidTests := true, laidLooks := .later }
def KeyFormsUptoCardSaid : Prop := Claim7.holds Tryd.pinned (.plain (OpenSpec.upto keyFormsSpec)) keyFormsUptoCard

/-- THE SECOND FORM's CARD OF 'plenumlaw08.KeyParts'. -/
def keyPartsUptoCard : Claim7 := { stood := { row := keyPartsUptoRow, standIns := [], harness := (true, "b0300759bb41e295849189a896a620e32056b416548fe2fddf7366a10a34f22c"), looks := false }, kinds := [], alts := [], laidByText := true, laidKinds := [.data], laidTests := true, laidLooks := .later }
def KeyPartsUptoCardSaid : Prop := Claim7.holds Tryd.pinned (.plain (OpenSpec.upto keyPartsSpec)) keyPartsUptoCard

/-- THE SECOND FORM's CARD OF 'plenumlaw08.KeyRanges'. -/
def keyRangesUptoCard : Claim7 := { stood := { row := keyRangesUptoRow, standIns := [], harness := (true, "b0300759bb41e295849189a896a620e32056b416548fe2fddf7366a10a34f22c"), looks := false }, kinds := [], alts := [], laidByText := true, laidKinds := [.data], laidTests := true, laidLooks := .later }
def KeyRangesUptoCardSaid : Prop := Claim7.holds Tryd.pinned (.plain (OpenSpec.upto keyRangesSpec)) keyRangesUptoCard

/-- THE SECOND FORM's CARD OF 'plenumlaw08.KeyMeets'. -/
def keyMeetsUptoCard : Claim7 := { stood := { row := keyMeetsUptoRow, standIns := [], harness := (true, "b0300759bb41e295849189a896a620e32056b416548fe2fddf7366a10a34f22c"), looks := false }, kinds := [], alts := [], laidByText := true, laidKinds := [.data], laidTests := true, laidLooks := .later }
def KeyMeetsUptoCardSaid : Prop := Claim7.holds Tryd.pinned (.plain (OpenSpec.upto keyMeetsSpec)) keyMeetsUptoCard

/-- THE SECOND FORM's CARD OF 'plenumlaw08.KeyUnder'. -/
def keyUnderUptoCard : Claim7 := { stood := { row := keyUnderUptoRow, standIns := [], harness := (true, "b0300759bb41e295849189a896a620e32056b416548fe2fddf7366a10a34f22c"), looks := false }, kinds := [], alts := [], laidByText := true, laidKinds := [.data], laidTests := true, laidLooks := .later }
def KeyUnderUptoCardSaid : Prop := Claim7.holds Tryd.pinned (.plain (OpenSpec.upto keyUnderSpec)) keyUnderUptoCard
end Rows
end Go.Proofs.YtkcflkgfipfdfaaDoor
