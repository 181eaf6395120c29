/-
  DERIVED. GIVEN WITH THE SEED: THE CARDS: each row of YtajfblfkohemeaaDoorRows.lean that lists a variable, with what it lists TIED to the program's text (the seventh form; the later family's looks); each row that meets fmt, with fmt's text TOLD by the authors' own Lean function (tested against real Go, not proved from fmt's source: count such statements apart). THE CARD IS WHAT COUNTS. Prove the row's statement (the work); the ties are given (YtajfblfkohemeaaDoorTie.lean); close each card by the builder's one call (the guide's Derived/Test/ToyasCard.lean, 'card_holds'). Laid BY PROGRAM, IN A SANDBOX (cutbox-door.mjs). By AI agents, Wed Nov 11 2026. No macro, syntax, notation, axiom, sorry.
-/
import Derived.Test.YtajfblfkohemeaaDoorRows
import GoSem.ClaimSeven
namespace Go.Proofs.YtajfblfkohemeaaDoor
namespace Rows

/-- THE TIED CARD OF 'epactlaw11.ZicBack'. -/
def zicBackCard : Claim7 := { stood := { row := zicBackRow, standIns := [], harness := (true, "e2990f6b1939c592b57b3b4b9531462e083b59cafeab650ffbab22b75162633c"), looks := false }, kinds := [], alts := [], laidByText := true, laidKinds := [.data, .data, .data, .data, .data, .data, .data, .pinned, .pinned], laidTests := true, laidLooks := .later }
def ZicBackCardSaid : Prop := Claim7.holds Tryd.pinned (.plain (OpenSpec.ofChange zicBackSpec)) zicBackCard

/-- THE TIED CARD OF 'epactlaw11.ZicRight'. -/
def zicRightCard : Claim7 := { stood := { row := zicRightRow, standIns := [], harness := (true, "e2990f6b1939c592b57b3b4b9531462e083b59cafeab650ffbab22b75162633c"), looks := false }, kinds := [], alts := [], laidByText := true, laidKinds := [.data, .data, .data, .data, .data, .data, .data, .pinned, .pinned], laidTests := true, laidLooks := .later }
def ZicRightCardSaid : Prop := Claim7.holds Tryd.pinned (.plain (OpenSpec.ofChange zicRightSpec)) zicRightCard

/-- THE TIED CARD OF 'epactlaw11.ZicWords'. -/
def zicWordsCard : Claim7 := { stood := { row := zicWordsRow, standIns := [], harness := (true, "e2990f6b1939c592b57b3b4b9531462e083b59cafeab650ffbab22b75162633c"), looks := false }, kinds := [], alts := [], laidByText := true, laidKinds := [.data, .data, .data, .data, .data, .data, .data, .pinned, .pinned], laidTests := true, laidLooks := .later }
def ZicWordsCardSaid : Prop := Claim7.holds Tryd.pinned (.plain (OpenSpec.ofChange zicWordsSpec)) zicWordsCard

/-- THE TIED CARD OF 'epactlaw11.ZicMonths'. -/
def zicMonthsCard : Claim7 := { stood := { row := zicMonthsRow, standIns := [], harness := (true, "e2990f6b1939c592b57b3b4b9531462e083b59cafeab650ffbab22b75162633c"), looks := false }, kinds := [], alts := [], laidByText := true, laidKinds := [.data, .data, .data, .data, .data, .data, .data, .pinned, .pinned], laidTests := true, laidLooks := .later }
def ZicMonthsCardSaid : Prop := Claim7.holds Tryd.pinned (.plain (OpenSpec.ofChange zicMonthsSpec)) zicMonthsCard

/-- THE SECOND FORM's CARD OF 'epactlaw11.ZicBack'. -/
def zicBackUptoCard : Claim7 := { stood := { row := zicBackUptoRow, standIns := [], harness := (true, "e2990f6b1939c592b57b3b4b9531462e083b59cafeab650ffbab22b75162633c"), looks := false }, kinds := [], alts := [], laidByText := true, laidKinds := [.data, .data, .data, .data, .data, .data, .data, .pinned, .pinned], laidTests := true, laidLooks := .later }
def ZicBackUptoCardSaid : Prop := Claim7.holds Tryd.pinned (.plain (OpenSpec.upto zicBackSpec)) zicBackUptoCard

/-- THE SECOND FORM's CARD OF 'epactlaw11.ZicRight'. -/
def zicRightUptoCard : Claim7 := { stood := { row := zicRightUptoRow, standIns := [], harness := (true, "e2990f6b1939c592b57b3b4b9531462e083b59cafeab650ffbab22b75162633c"), looks := false }, kinds := [], alts := [], laidByText := true, laidKinds := [.data, .data, .data, .data, .data, .data, .data, .pinned, .pinned], laidTests := true, laidLooks := .later }
def ZicRightUptoCardSaid : Prop := Claim7.holds Tryd.pinned (.plain (OpenSpec.upto zicRightSpec)) zicRightUptoCard

/-- THE SECOND FORM's CARD OF 'epactlaw11.ZicWords'. -/
def zicWordsUptoCard : Claim7 := { stood := { row := zicWordsUptoRow, standIns := [], harness := (true, "e2990f6b1939c592b57b3b4b9531462e083b59cafeab650ffbab22b75162633c"), looks := false }, kinds := [], alts := [], laidByText := true, laidKinds := [.data, .data, .data, .data, .data, .data, .data, .pinned, .pinned], laidTests := true, laidLooks := .later }
def ZicWordsUptoCardSaid : Prop := Claim7.holds Tryd.pinned (.plain (OpenSpec.upto zicWordsSpec)) zicWordsUptoCard

/-- THE SECOND FORM's CARD OF 'epactlaw11.ZicMonths'. -/
def zicMonthsUptoCard : Claim7 := { stood := { row := zicMonthsUptoRow, standIns := [], harness := (true, "e2990f6b1939c592b57b3b4b9531462e083b59cafeab650ffbab22b75162633c"), looks := false }, kinds := [], alts := [], laidByText := true, laidKinds := [.data, .data, .data, .data, .data, .data, .data, .pinned, .pinned], laidTests := true, laidLooks := .later }
def ZicMonthsUptoCardSaid : Prop := Claim7.holds Tryd.pinned (.plain (OpenSpec.upto zicMonthsSpec)) zicMonthsUptoCard
end Rows
end Go.Proofs.YtajfblfkohemeaaDoor
