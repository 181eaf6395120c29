/-
  DERIVED. GIVEN WITH THE SEED: THE CARDS: each row of YtefnlnehdogiaaaDoorRows.lean that lists a variable, with what it lists TIED to the program's text (the seventh form; the later family's looks); each row that meets fmt, with fmt's text TOLD by the authors' own Lean function (tested against real Go, not proved from fmt's source: count such statements apart). THE CARD IS WHAT COUNTS. Prove the row's statement (the work); the ties are given (YtefnlnehdogiaaaDoorTie.lean); close each card by the builder's one call (the guide's Derived/Test/ToyasCard.lean, 'card_holds'). Laid BY PROGRAM, IN A SANDBOX (cutbox-door.mjs). By AI agents, Wed Nov 11 2026. No macro, syntax, notation, axiom, sorry.
-/
import Derived.Test.YtefnlnehdogiaaaDoorRows
import GoSem.ClaimSeven
namespace Go.Proofs.YtefnlnehdogiaaaDoor
namespace Rows

/-- THE TIED CARD OF 'epactlaw09.LeapTells'. -/
def leapTellsCard : Claim7 := { stood := { row := leapTellsRow, standIns := [], harness := (true, "41996721c4ce7100dcf4620acd1b27b06cddb0399380406902693590bb5fb0e8"), looks := false }, kinds := [], alts := [], laidByText := true, laidKinds := [.data, .data], laidTests := true, laidLooks := .later }
def LeapTellsCardSaid : Prop := Claim7.holds Tryd.pinned (.plain (OpenSpec.ofChange leapTellsSpec)) leapTellsCard

/-- THE TIED CARD OF 'epactlaw09.LeapTotals'. -/
def leapTotalsCard : Claim7 := { stood := { row := leapTotalsRow, standIns := [], harness := (true, "41996721c4ce7100dcf4620acd1b27b06cddb0399380406902693590bb5fb0e8"), looks := false }, kinds := [], alts := [], laidByText := true, laidKinds := [.data, .data], laidTests := true, laidLooks := .later }
def LeapTotalsCardSaid : Prop := Claim7.holds Tryd.pinned (.plain (OpenSpec.ofChange leapTotalsSpec)) leapTotalsCard

/-- THE TIED CARD OF 'epactlaw09.LeapFinds'. -/
def leapFindsCard : Claim7 := { stood := { row := leapFindsRow, standIns := [], harness := (true, "41996721c4ce7100dcf4620acd1b27b06cddb0399380406902693590bb5fb0e8"), looks := false }, kinds := [], alts := [], laidByText := true, laidKinds := [.data, .data], laidTests := true, laidLooks := .later }
def LeapFindsCardSaid : Prop := Claim7.holds Tryd.pinned (.plain (OpenSpec.ofChange leapFindsSpec)) leapFindsCard

/-- THE TIED CARD OF 'epactlaw09.LeapParts'. -/
def leapPartsCard : Claim7 := { stood := { row := leapPartsRow, standIns := [], harness := (true, "41996721c4ce7100dcf4620acd1b27b06cddb0399380406902693590bb5fb0e8"), looks := false }, kinds := [], alts := [], laidByText := true, laidKinds := [.data, .data], laidTests := true, laidLooks := .later }
def LeapPartsCardSaid : Prop := Claim7.holds Tryd.pinned (.plain (OpenSpec.ofChange leapPartsSpec)) leapPartsCard

/-- THE TIED CARD OF 'epactlaw09.LeapAdds'. -/
def leapAddsCard : Claim7 := { stood := { row := leapAddsRow, standIns := [], harness := (true, "41996721c4ce7100dcf4620acd1b27b06cddb0399380406902693590bb5fb0e8"), looks := false }, kinds := [], alts := [], laidByText := true, laidKinds := [.data, .data], laidTests := true, laidLooks := .later }
def LeapAddsCardSaid : Prop := Claim7.holds Tryd.pinned (.plain (OpenSpec.ofChange leapAddsSpec)) leapAddsCard

/-- THE TIED CARD OF 'epactlaw09.LeapLengths'. -/
def leapLengthsCard : Claim7 := { stood := { row := leapLengthsRow, standIns := [], harness := (true, "41996721c4ce7100dcf4620acd1b27b06cddb0399380406902693590bb5fb0e8"), looks := false }, kinds := [], alts := [], laidByText := true, laidKinds := [.data, .data], laidTests := true, laidLooks := .later }
def LeapLengthsCardSaid : Prop := Claim7.holds Tryd.pinned (.plain (OpenSpec.ofChange leapLengthsSpec)) leapLengthsCard

/-- THE SECOND FORM's CARD OF 'epactlaw09.LeapTells'. -/
def leapTellsUptoCard : Claim7 := { stood := { row := leapTellsUptoRow, standIns := [], harness := (true, "41996721c4ce7100dcf4620acd1b27b06cddb0399380406902693590bb5fb0e8"), looks := false }, kinds := [], alts := [], laidByText := true, laidKinds := [.data, .data], laidTests := true, laidLooks := .later }
def LeapTellsUptoCardSaid : Prop := Claim7.holds Tryd.pinned (.plain (OpenSpec.upto leapTellsSpec)) leapTellsUptoCard

/-- THE SECOND FORM's CARD OF 'epactlaw09.LeapTotals'. -/
def leapTotalsUptoCard : Claim7 := { stood := { row := leapTotalsUptoRow, standIns := [], harness := (true, "41996721c4ce7100dcf4620acd1b27b06cddb0399380406902693590bb5fb0e8"), looks := false }, kinds := [], alts := [], laidByText := true, laidKinds := [.data, .data], laidTests := true, laidLooks := .later }
def LeapTotalsUptoCardSaid : Prop := Claim7.holds Tryd.pinned (.plain (OpenSpec.upto leapTotalsSpec)) leapTotalsUptoCard

/-- THE SECOND FORM's CARD OF 'epactlaw09.LeapFinds'. -/
def leapFindsUptoCard : Claim7 := { stood := { row := leapFindsUptoRow, standIns := [], harness := (true, "41996721c4ce7100dcf4620acd1b27b06cddb0399380406902693590bb5fb0e8"), looks := false }, kinds := [], alts := [], laidByText := true, laidKinds := [.data, .data], laidTests := true, laidLooks := .later }
def LeapFindsUptoCardSaid : Prop := Claim7.holds Tryd.pinned (.plain (OpenSpec.upto leapFindsSpec)) leapFindsUptoCard

/-- THE SECOND FORM's CARD OF 'epactlaw09.LeapParts'. -/
def leapPartsUptoCard : Claim7 := { stood := { row := leapPartsUptoRow, standIns := [], harness := (true, "41996721c4ce7100dcf4620acd1b27b06cddb0399380406902693590bb5fb0e8"), looks := false }, kinds := [], alts := [], laidByText := true, laidKinds := [.data, .data], laidTests := true, laidLooks := .later }
def LeapPartsUptoCardSaid : Prop := Claim7.holds Tryd.pinned (.plain (OpenSpec.upto leapPartsSpec)) leapPartsUptoCard

/-- THE SECOND FORM's CARD OF 'epactlaw09.LeapAdds'. -/
def leapAddsUptoCard : Claim7 := { stood := { row := leapAddsUptoRow, standIns := [], harness := (true, "41996721c4ce7100dcf4620acd1b27b06cddb0399380406902693590bb5fb0e8"), looks := false }, kinds := [], alts := [], laidByText := true, laidKinds := [.data, .data], laidTests := true, laidLooks := .later }
def LeapAddsUptoCardSaid : Prop := Claim7.holds Tryd.pinned (.plain (OpenSpec.upto leapAddsSpec)) leapAddsUptoCard

/-- THE SECOND FORM's CARD OF 'epactlaw09.LeapLengths'. -/
def leapLengthsUptoCard : Claim7 := { stood := { row := leapLengthsUptoRow, standIns := [], harness := (true, "41996721c4ce7100dcf4620acd1b27b06cddb0399380406902693590bb5fb0e8"), looks := false }, kinds := [], alts := [], laidByText := true, laidKinds := [.data, .data], laidTests := true, laidLooks := .later }
def LeapLengthsUptoCardSaid : Prop := Claim7.holds Tryd.pinned (.plain (OpenSpec.upto leapLengthsSpec)) leapLengthsUptoCard
end Rows
end Go.Proofs.YtefnlnehdogiaaaDoor
