/-
  DERIVED. GIVEN WITH THE SEED: THE CARDS: each row of YtpkohihnocblfaaGreatDoorRows.lean that lists a variable, with what it lists TIED to the program's text (the seventh form; the later family's looks); each row that meets fmt, with fmt's text TOLD by the authors' own Lean function (tested against real Go, not proved from fmt's source: count such statements apart). THE CARD IS WHAT COUNTS. Prove the row's statement (the work); the ties are given (YtpkohihnocblfaaGreatDoorTie.lean); close each card by the builder's one call (the guide's Derived/Test/ToyasCard.lean, 'card_holds'). Laid BY PROGRAM, IN A SANDBOX (cutbox-door.mjs). By AI agents, Wed Nov 11 2026. No macro, syntax, notation, axiom, sorry.
-/
import Derived.Test.YtpkohihnocblfaaGreatDoorRows
import GoSem.ClaimSeven
namespace Go.Proofs.YtpkohihnocblfaaGreatDoor
namespace Rows

/-- THE TIED CARD OF 'epactlaw11.ZicLists'. -/
def zicListsCard : Claim7 := { stood := { row := zicListsRow, standIns := [], harness := (true, "1acae8806de1fc45cb9fabdcdb651e9ed4905000517b0c4435cea131f41b2316"), looks := false }, kinds := [], alts := [], laidByText := true, laidKinds := [.data, .data, .data, .data, .data, .data, .data, .data, .pinned, .pinned], laidTests := true, laidLooks := .later }
def ZicListsCardSaid : Prop := Claim7.holds Tryz.pinned (.plain (OpenSpec.ofChange zicListsSpec)) zicListsCard

/-- THE SECOND FORM's CARD OF 'epactlaw11.ZicLists'. -/
def zicListsUptoCard : Claim7 := { stood := { row := zicListsUptoRow, standIns := [], harness := (true, "1acae8806de1fc45cb9fabdcdb651e9ed4905000517b0c4435cea131f41b2316"), looks := false }, kinds := [], alts := [], laidByText := true, laidKinds := [.data, .data, .data, .data, .data, .data, .data, .data, .pinned, .pinned], laidTests := true, laidLooks := .later }
def ZicListsUptoCardSaid : Prop := Claim7.holds Tryz.pinned (.plain (OpenSpec.upto zicListsSpec)) zicListsUptoCard
end Rows
end Go.Proofs.YtpkohihnocblfaaGreatDoor
