/-
  DERIVED. GIVEN WITH THE SEED: THE CARDS: each row of YtcikcdeihlmbcaaDoorRows.lean that lists a variable, with what it lists TIED to the program's text (the seventh form; the later family's looks); each row that meets fmt, with fmt's text TOLD by the authors' own Lean function (tested against real Go, not proved from fmt's source: count such statements apart). THE CARD IS WHAT COUNTS. Prove the row's statement (the work); the ties are given (YtcikcdeihlmbcaaDoorTie.lean); close each card by the builder's one call (the guide's Derived/Test/ToyasCard.lean, 'card_holds'). Laid BY PROGRAM, IN A SANDBOX (cutbox-door.mjs). By AI agents, Wed Nov 11 2026. No macro, syntax, notation, axiom, sorry.
-/
import Derived.Test.YtcikcdeihlmbcaaDoorRows
import GoSem.ClaimSeven
namespace Go.Proofs.YtcikcdeihlmbcaaDoor
namespace Rows

/-- THE TIED CARD OF 'epactlaw12.RecordTells'. -/
def recordTellsCard : Claim7 := { stood := { row := recordTellsRow, standIns := [], harness := (true, "f8721ddae60d6ae2c01f8daeee7e027935a2181b9f2abcfb09a5f9184236932e"), looks := false }, kinds := [], alts := [], laidByText := true, laidKinds := [.data, .data], laidTests := true, laidLooks := .later }
def RecordTellsCardSaid : Prop := Claim7.holds Tryd.pinned (.plain (OpenSpec.ofChange recordTellsSpec)) recordTellsCard

/-- THE TIED CARD OF 'epactlaw12.RecordBack'. -/
def recordBackCard : Claim7 := { stood := { row := recordBackRow, standIns := [], harness := (true, "f8721ddae60d6ae2c01f8daeee7e027935a2181b9f2abcfb09a5f9184236932e"), looks := false }, kinds := [], alts := [], laidByText := true, laidKinds := [.data, .data], laidTests := true, laidLooks := .later }
def RecordBackCardSaid : Prop := Claim7.holds Tryd.pinned (.plain (OpenSpec.ofChange recordBackSpec)) recordBackCard

/-- THE TIED CARD OF 'epactlaw12.RecordSums'. -/
def recordSumsCard : Claim7 := { stood := { row := recordSumsRow, standIns := [], harness := (true, "f8721ddae60d6ae2c01f8daeee7e027935a2181b9f2abcfb09a5f9184236932e"), looks := false }, kinds := [], alts := [], laidByText := true, laidKinds := [.data, .data], laidTests := true, laidLooks := .later }
def RecordSumsCardSaid : Prop := Claim7.holds Tryd.pinned (.plain (OpenSpec.ofChange recordSumsSpec)) recordSumsCard

/-- THE TIED CARD OF 'epactlaw12.RecordDays'. -/
def recordDaysCard : Claim7 := { stood := { row := recordDaysRow, standIns := [], harness := (true, "f8721ddae60d6ae2c01f8daeee7e027935a2181b9f2abcfb09a5f9184236932e"), looks := false }, kinds := [], alts := [], laidByText := true, laidKinds := [.data, .data], laidTests := true, laidLooks := .later }
def RecordDaysCardSaid : Prop := Claim7.holds Tryd.pinned (.plain (OpenSpec.ofChange recordDaysSpec)) recordDaysCard

/-- THE TIED CARD OF 'epactlaw12.RecordEnds'. -/
def recordEndsCard : Claim7 := { stood := { row := recordEndsRow, standIns := [], harness := (true, "f8721ddae60d6ae2c01f8daeee7e027935a2181b9f2abcfb09a5f9184236932e"), looks := false }, kinds := [], alts := [], laidByText := true, laidKinds := [.data, .data], laidTests := true, laidLooks := .later }
def RecordEndsCardSaid : Prop := Claim7.holds Tryd.pinned (.plain (OpenSpec.ofChange recordEndsSpec)) recordEndsCard

/-- THE TIED CARD OF 'epactlaw12.RecordParts'. -/
def recordPartsCard : Claim7 := { stood := { row := recordPartsRow, standIns := [], harness := (true, "f8721ddae60d6ae2c01f8daeee7e027935a2181b9f2abcfb09a5f9184236932e"), looks := false }, kinds := [], alts := [], laidByText := true, laidKinds := [.data, .data], laidTests := true, laidLooks := .later }
def RecordPartsCardSaid : Prop := Claim7.holds Tryd.pinned (.plain (OpenSpec.ofChange recordPartsSpec)) recordPartsCard

/-- THE SECOND FORM's CARD OF 'epactlaw12.RecordTells'. -/
def recordTellsUptoCard : Claim7 := { stood := { row := recordTellsUptoRow, standIns := [], harness := (true, "f8721ddae60d6ae2c01f8daeee7e027935a2181b9f2abcfb09a5f9184236932e"), looks := false }, kinds := [], alts := [], laidByText := true, laidKinds := [.data, .data], laidTests := true, laidLooks := .later }
def RecordTellsUptoCardSaid : Prop := Claim7.holds Tryd.pinned (.plain (OpenSpec.upto recordTellsSpec)) recordTellsUptoCard

/-- THE SECOND FORM's CARD OF 'epactlaw12.RecordBack'. -/
def recordBackUptoCard : Claim7 := { stood := { row := recordBackUptoRow, standIns := [], harness := (true, "f8721ddae60d6ae2c01f8daeee7e027935a2181b9f2abcfb09a5f9184236932e"), looks := false }, kinds := [], alts := [], laidByText := true, laidKinds := [.data, .data], laidTests := true, laidLooks := .later }
def RecordBackUptoCardSaid : Prop := Claim7.holds Tryd.pinned (.plain (OpenSpec.upto recordBackSpec)) recordBackUptoCard

/-- THE SECOND FORM's CARD OF 'epactlaw12.RecordSums'. -/
def recordSumsUptoCard : Claim7 := { stood := { row := recordSumsUptoRow, standIns := [], harness := (true, "f8721ddae60d6ae2c01f8daeee7e027935a2181b9f2abcfb09a5f9184236932e"), looks := false }, kinds := [], alts := [], laidByText := true, laidKinds := [.data, .data], laidTests := true, laidLooks := .later }
def RecordSumsUptoCardSaid : Prop := Claim7.holds Tryd.pinned (.plain (OpenSpec.upto recordSumsSpec)) recordSumsUptoCard

/-- THE SECOND FORM's CARD OF 'epactlaw12.RecordDays'. -/
def recordDaysUptoCard : Claim7 := { stood := { row := recordDaysUptoRow, standIns := [], harness := (true, "f8721ddae60d6ae2c01f8daeee7e027935a2181b9f2abcfb09a5f9184236932e"), looks := false }, kinds := [], alts := [], laidByText := true, laidKinds := [.data, .data], laidTests := true, laidLooks := .later }
def RecordDaysUptoCardSaid : Prop := Claim7.holds Tryd.pinned (.plain (OpenSpec.upto recordDaysSpec)) recordDaysUptoCard

/-- THE SECOND FORM's CARD OF 'epactlaw12.RecordEnds'. -/
def recordEndsUptoCard : Claim7 := { stood := { row := recordEndsUptoRow, standIns := [], harness := (true, "f8721ddae60d6ae2c01f8daeee7e027935a2181b9f2abcfb09a5f9184236932e"), looks := false }, kinds := [], alts := [], laidByText := true, laidKinds := [.data, .data], laidTests := true, laidLooks := .later }
def RecordEndsUptoCardSaid : Prop := Claim7.holds Tryd.pinned (.plain (OpenSpec.upto recordEndsSpec)) recordEndsUptoCard

/-- THE SECOND FORM's CARD OF 'epactlaw12.RecordParts'. -/
def recordPartsUptoCard : Claim7 := { stood := { row := recordPartsUptoRow, standIns := [], harness := (true, "f8721ddae60d6ae2c01f8daeee7e027935a2181b9f2abcfb09a5f9184236932e"), looks := false }, kinds := [], alts := [], laidByText := true, laidKinds := [.data, .data], laidTests := true, laidLooks := .later }
def RecordPartsUptoCardSaid : Prop := Claim7.holds Tryd.pinned (.plain (OpenSpec.upto recordPartsSpec)) recordPartsUptoCard
end Rows
end Go.Proofs.YtcikcdeihlmbcaaDoor
