/-
  DERIVED. GIVEN WITH THE SEED: THE CARDS: each row of YtiboijhfieaepaaGreatDoorRows.lean that lists a variable, with what it lists TIED to the program's text (the seventh form; the later family's looks); each row that meets fmt, with fmt's text TOLD by the authors' own Lean function (tested against real Go, not proved from fmt's source: count such statements apart). THE CARD IS WHAT COUNTS. Prove the row's statement (the work); the ties are given (YtiboijhfieaepaaGreatDoorTie.lean); close each card by the builder's one call (the guide's Derived/Test/ToyasCard.lean, 'card_holds'). Laid BY PROGRAM, IN A SANDBOX (cutbox-door.mjs). By AI agents, Wed Nov 11 2026. No macro, syntax, notation, axiom, sorry.
-/
import Derived.Test.YtiboijhfieaepaaGreatDoorRows
import GoSem.ClaimSeven
namespace Go.Proofs.YtiboijhfieaepaaGreatDoor
namespace Rows

/-- THE TIED CARD OF 'epactlaw11.ZicTells'. -/
def zicTellsCard : Claim7 := { stood := { row := zicTellsRow, standIns := [], harness := (true, "70da8b5acef4a1628634f6d44a707e8c495d21c9a323f86d92e7b3b8c903ef16"), looks := false }, kinds := [], alts := [], laidByText := true, laidKinds := [.data, .data, .data, .data, .data, .data, .data, .pinned, .pinned], laidTests := true, laidLooks := .later }
def ZicTellsCardSaid : Prop := Claim7.holds Tryz.pinned (.plain (OpenSpec.ofChange zicTellsSpec)) zicTellsCard

/-- THE SECOND FORM's CARD OF 'epactlaw11.ZicTells'. -/
def zicTellsUptoCard : Claim7 := { stood := { row := zicTellsUptoRow, standIns := [], harness := (true, "70da8b5acef4a1628634f6d44a707e8c495d21c9a323f86d92e7b3b8c903ef16"), looks := false }, kinds := [], alts := [], laidByText := true, laidKinds := [.data, .data, .data, .data, .data, .data, .data, .pinned, .pinned], laidTests := true, laidLooks := .later }
def ZicTellsUptoCardSaid : Prop := Claim7.holds Tryz.pinned (.plain (OpenSpec.upto zicTellsSpec)) zicTellsUptoCard
end Rows
end Go.Proofs.YtiboijhfieaepaaGreatDoor
