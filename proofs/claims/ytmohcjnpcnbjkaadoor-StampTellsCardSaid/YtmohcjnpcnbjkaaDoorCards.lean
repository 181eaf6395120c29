/-
  DERIVED. GIVEN WITH THE SEED: THE CARDS: each row of YtmohcjnpcnbjkaaDoorRows.lean that lists a variable, with what it lists TIED to the program's text (the seventh form; the later family's looks); each row that meets fmt, with fmt's text TOLD by the authors' own Lean function (tested against real Go, not proved from fmt's source: count such statements apart). THE CARD IS WHAT COUNTS. Prove the row's statement (the work); the ties are given (YtmohcjnpcnbjkaaDoorTie.lean); close each card by the builder's one call (the guide's Derived/Test/ToyasCard.lean, 'card_holds'). Laid BY PROGRAM, IN A SANDBOX (cutbox-door.mjs). By AI agents, Wed Nov 11 2026. No macro, syntax, notation, axiom, sorry.
-/
import Derived.Test.YtmohcjnpcnbjkaaDoorRows
import GoSem.ClaimSeven
namespace Go.Proofs.YtmohcjnpcnbjkaaDoor
namespace Rows

/-- THE TIED CARD OF 'epactlaw04.StampTells'. -/
def stampTellsCard : Claim7 := { stood := { row := stampTellsRow, standIns := [], harness := (true, "9b0961e7a04d40b7e8a2fc752ac4a686cda2b857d4e571582ed36472b6fda370"), looks := false }, kinds := [], alts := [], laidByText := true, laidKinds := [.data, .data, .data, .data, .data], laidTests := true, laidLooks := .later }
def StampTellsCardSaid : Prop := Claim7.holds Tryd.pinned (.plain (OpenSpec.ofChange stampTellsSpec)) stampTellsCard

/-- THE TIED CARD OF 'epactlaw04.StampBack'. -/
def stampBackCard : Claim7 := { stood := { row := stampBackRow, standIns := [], harness := (true, "9b0961e7a04d40b7e8a2fc752ac4a686cda2b857d4e571582ed36472b6fda370"), looks := false }, kinds := [], alts := [], laidByText := true, laidKinds := [.data, .data, .data, .data, .data], laidTests := true, laidLooks := .later }
def StampBackCardSaid : Prop := Claim7.holds Tryd.pinned (.plain (OpenSpec.ofChange stampBackSpec)) stampBackCard

/-- THE TIED CARD OF 'epactlaw04.StampClocks'. -/
def stampClocksCard : Claim7 := { stood := { row := stampClocksRow, standIns := [], harness := (true, "9b0961e7a04d40b7e8a2fc752ac4a686cda2b857d4e571582ed36472b6fda370"), looks := false }, kinds := [], alts := [], laidByText := true, laidKinds := [.data, .data, .data, .data, .data], laidTests := true, laidLooks := .later }
def StampClocksCardSaid : Prop := Claim7.holds Tryd.pinned (.plain (OpenSpec.ofChange stampClocksSpec)) stampClocksCard

/-- THE TIED CARD OF 'epactlaw04.StampOrder'. -/
def stampOrderCard : Claim7 := { stood := { row := stampOrderRow, standIns := [], harness := (true, "9b0961e7a04d40b7e8a2fc752ac4a686cda2b857d4e571582ed36472b6fda370"), looks := false }, kinds := [], alts := [], laidByText := true, laidKinds := [.data, .data, .data, .data, .data], laidTests := true, laidLooks := .later }
def StampOrderCardSaid : Prop := Claim7.holds Tryd.pinned (.plain (OpenSpec.ofChange stampOrderSpec)) stampOrderCard

/-- THE TIED CARD OF 'epactlaw04.StampSpoiled'. -/
def stampSpoiledCard : Claim7 := { stood := { row := stampSpoiledRow, standIns := [], harness := (true, "9b0961e7a04d40b7e8a2fc752ac4a686cda2b857d4e571582ed36472b6fda370"), looks := false }, kinds := [], alts := [], laidByText := true, laidKinds := [.data, .data, .data, .data, .data], laidTests := true, laidLooks := .later }
def StampSpoiledCardSaid : Prop := Claim7.holds Tryd.pinned (.plain (OpenSpec.ofChange stampSpoiledSpec)) stampSpoiledCard

/-- THE SECOND FORM's CARD OF 'epactlaw04.StampTells'. -/
def stampTellsUptoCard : Claim7 := { stood := { row := stampTellsUptoRow, standIns := [], harness := (true, "9b0961e7a04d40b7e8a2fc752ac4a686cda2b857d4e571582ed36472b6fda370"), looks := false }, kinds := [], alts := [], laidByText := true, laidKinds := [.data, .data, .data, .data, .data], laidTests := true, laidLooks := .later }
def StampTellsUptoCardSaid : Prop := Claim7.holds Tryd.pinned (.plain (OpenSpec.upto stampTellsSpec)) stampTellsUptoCard

/-- THE SECOND FORM's CARD OF 'epactlaw04.StampBack'. -/
def stampBackUptoCard : Claim7 := { stood := { row := stampBackUptoRow, standIns := [], harness := (true, "9b0961e7a04d40b7e8a2fc752ac4a686cda2b857d4e571582ed36472b6fda370"), looks := false }, kinds := [], alts := [], laidByText := true, laidKinds := [.data, .data, .data, .data, .data], laidTests := true, laidLooks := .later }
def StampBackUptoCardSaid : Prop := Claim7.holds Tryd.pinned (.plain (OpenSpec.upto stampBackSpec)) stampBackUptoCard

/-- THE SECOND FORM's CARD OF 'epactlaw04.StampClocks'. -/
def stampClocksUptoCard : Claim7 := { stood := { row := stampClocksUptoRow, standIns := [], harness := (true, "9b0961e7a04d40b7e8a2fc752ac4a686cda2b857d4e571582ed36472b6fda370"), looks := false }, kinds := [], alts := [], laidByText := true, laidKinds := [.data, .data, .data, .data, .data], laidTests := true, laidLooks := .later }
def StampClocksUptoCardSaid : Prop := Claim7.holds Tryd.pinned (.plain (OpenSpec.upto stampClocksSpec)) stampClocksUptoCard

/-- THE SECOND FORM's CARD OF 'epactlaw04.StampOrder'. -/
def stampOrderUptoCard : Claim7 := { stood := { row := stampOrderUptoRow, standIns := [], harness := (true, "9b0961e7a04d40b7e8a2fc752ac4a686cda2b857d4e571582ed36472b6fda370"), looks := false }, kinds := [], alts := [], laidByText := true, laidKinds := [.data, .data, .data, .data, .data], laidTests := true, laidLooks := .later }
def StampOrderUptoCardSaid : Prop := Claim7.holds Tryd.pinned (.plain (OpenSpec.upto stampOrderSpec)) stampOrderUptoCard

/-- THE SECOND FORM's CARD OF 'epactlaw04.StampSpoiled'. -/
def stampSpoiledUptoCard : Claim7 := { stood := { row := stampSpoiledUptoRow, standIns := [], harness := (true, "9b0961e7a04d40b7e8a2fc752ac4a686cda2b857d4e571582ed36472b6fda370"), looks := false }, kinds := [], alts := [], laidByText := true, laidKinds := [.data, .data, .data, .data, .data], laidTests := true, laidLooks := .later }
def StampSpoiledUptoCardSaid : Prop := Claim7.holds Tryd.pinned (.plain (OpenSpec.upto stampSpoiledSpec)) stampSpoiledUptoCard
end Rows
end Go.Proofs.YtmohcjnpcnbjkaaDoor
