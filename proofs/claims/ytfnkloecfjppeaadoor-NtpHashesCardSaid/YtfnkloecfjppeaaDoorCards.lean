/-
  DERIVED. GIVEN WITH THE SEED: THE CARDS: each row of YtfnkloecfjppeaaDoorRows.lean that lists a variable, with what it lists TIED to the program's text (the seventh form; the later family's looks); each row that meets fmt, with fmt's text TOLD by the authors' own Lean function (tested against real Go, not proved from fmt's source: count such statements apart). THE CARD IS WHAT COUNTS. Prove the row's statement (the work); the ties are given (YtfnkloecfjppeaaDoorTie.lean); close each card by the builder's one call (the guide's Derived/Test/ToyasCard.lean, 'card_holds'). Laid BY PROGRAM, IN A SANDBOX (cutbox-door.mjs). By AI agents, Wed Nov 11 2026. No macro, syntax, notation, axiom, sorry.
-/
import Derived.Test.YtfnkloecfjppeaaDoorRows
import GoSem.ClaimSeven
namespace Go.Proofs.YtfnkloecfjppeaaDoor
namespace Rows

/-- THE TIED CARD OF 'epactlaw07.NtpTells'. -/
def ntpTellsCard : Claim7 := { stood := { row := ntpTellsRow, standIns := [], harness := (true, "b44d6b33c13a15eadfb349d265aca296708c1ecc883d8bc875c4c0b635c0e360"), looks := false }, kinds := [], alts := [], laidByText := true, laidKinds := [.data, .data, .data], laidTests := true, laidLooks := .later }
def NtpTellsCardSaid : Prop := Claim7.holds Tryd.pinned (.plain (OpenSpec.ofChange ntpTellsSpec)) ntpTellsCard

/-- THE TIED CARD OF 'epactlaw07.NtpBack'. -/
def ntpBackCard : Claim7 := { stood := { row := ntpBackRow, standIns := [], harness := (true, "b44d6b33c13a15eadfb349d265aca296708c1ecc883d8bc875c4c0b635c0e360"), looks := false }, kinds := [], alts := [], laidByText := true, laidKinds := [.data, .data, .data], laidTests := true, laidLooks := .later }
def NtpBackCardSaid : Prop := Claim7.holds Tryd.pinned (.plain (OpenSpec.ofChange ntpBackSpec)) ntpBackCard

/-- THE TIED CARD OF 'epactlaw07.NtpHashes'. -/
def ntpHashesCard : Claim7 := { stood := { row := ntpHashesRow, standIns := [], harness := (true, "b44d6b33c13a15eadfb349d265aca296708c1ecc883d8bc875c4c0b635c0e360"), looks := false }, kinds := [], alts := [], laidByText := true, laidKinds := [.data, .data, .data], laidTests := true, laidLooks := .later }
def NtpHashesCardSaid : Prop := Claim7.holds Tryd.pinned (.plain (OpenSpec.ofChange ntpHashesSpec)) ntpHashesCard

/-- THE TIED CARD OF 'epactlaw07.NtpDigits'. -/
def ntpDigitsCard : Claim7 := { stood := { row := ntpDigitsRow, standIns := [], harness := (true, "b44d6b33c13a15eadfb349d265aca296708c1ecc883d8bc875c4c0b635c0e360"), looks := false }, kinds := [], alts := [], laidByText := true, laidKinds := [.data, .data, .data], laidTests := true, laidLooks := .later }
def NtpDigitsCardSaid : Prop := Claim7.holds Tryd.pinned (.plain (OpenSpec.ofChange ntpDigitsSpec)) ntpDigitsCard

/-- THE TIED CARD OF 'epactlaw07.NtpWords'. -/
def ntpWordsCard : Claim7 := { stood := { row := ntpWordsRow, standIns := [], harness := (true, "b44d6b33c13a15eadfb349d265aca296708c1ecc883d8bc875c4c0b635c0e360"), looks := false }, kinds := [], alts := [], laidByText := true, laidKinds := [.data, .data, .data], laidTests := true, laidLooks := .later }
def NtpWordsCardSaid : Prop := Claim7.holds Tryd.pinned (.plain (OpenSpec.ofChange ntpWordsSpec)) ntpWordsCard

/-- THE SECOND FORM's CARD OF 'epactlaw07.NtpTells'. -/
def ntpTellsUptoCard : Claim7 := { stood := { row := ntpTellsUptoRow, standIns := [], harness := (true, "b44d6b33c13a15eadfb349d265aca296708c1ecc883d8bc875c4c0b635c0e360"), looks := false }, kinds := [], alts := [], laidByText := true, laidKinds := [.data, .data, .data], laidTests := true, laidLooks := .later }
def NtpTellsUptoCardSaid : Prop := Claim7.holds Tryd.pinned (.plain (OpenSpec.upto ntpTellsSpec)) ntpTellsUptoCard

/-- THE SECOND FORM's CARD OF 'epactlaw07.NtpBack'. -/
def ntpBackUptoCard : Claim7 := { stood := { row := ntpBackUptoRow, standIns := [], harness := (true, "b44d6b33c13a15eadfb349d265aca296708c1ecc883d8bc875c4c0b635c0e360"), looks := false }, kinds := [], alts := [], laidByText := true, laidKinds := [.data, .data, .data], laidTests := true, laidLooks := .later }
def NtpBackUptoCardSaid : Prop := Claim7.holds Tryd.pinned (.plain (OpenSpec.upto ntpBackSpec)) ntpBackUptoCard

/-- THE SECOND FORM's CARD OF 'epactlaw07.NtpHashes'. -/
def ntpHashesUptoCard : Claim7 := { stood := { row := ntpHashesUptoRow, standIns := [], harness := (true, "b44d6b33c13a15eadfb349d265aca296708c1ecc883d8bc875c4c0b635c0e360"), looks := false }, kinds := [], alts := [], laidByText := true, laidKinds := [.data, .data, .data], laidTests := true, laidLooks := .later }
def NtpHashesUptoCardSaid : Prop := Claim7.holds Tryd.pinned (.plain (OpenSpec.upto ntpHashesSpec)) ntpHashesUptoCard

/-- THE SECOND FORM's CARD OF 'epactlaw07.NtpDigits'. -/
def ntpDigitsUptoCard : Claim7 := { stood := { row := ntpDigitsUptoRow, standIns := [], harness := (true, "b44d6b33c13a15eadfb349d265aca296708c1ecc883d8bc875c4c0b635c0e360"), looks := false }, kinds := [], alts := [], laidByText := true, laidKinds := [.data, .data, .data], laidTests := true, laidLooks := .later }
def NtpDigitsUptoCardSaid : Prop := Claim7.holds Tryd.pinned (.plain (OpenSpec.upto ntpDigitsSpec)) ntpDigitsUptoCard

/-- THE SECOND FORM's CARD OF 'epactlaw07.NtpWords'. -/
def ntpWordsUptoCard : Claim7 := { stood := { row := ntpWordsUptoRow, standIns := [], harness := (true, "b44d6b33c13a15eadfb349d265aca296708c1ecc883d8bc875c4c0b635c0e360"), looks := false }, kinds := [], alts := [], laidByText := true, laidKinds := [.data, .data, .data], laidTests := true, laidLooks := .later }
def NtpWordsUptoCardSaid : Prop := Claim7.holds Tryd.pinned (.plain (OpenSpec.upto ntpWordsSpec)) ntpWordsUptoCard
end Rows
end Go.Proofs.YtfnkloecfjppeaaDoor
