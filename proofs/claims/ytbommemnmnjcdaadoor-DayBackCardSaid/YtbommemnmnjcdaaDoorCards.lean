/-
  DERIVED. GIVEN WITH THE SEED: THE CARDS: each row of YtbommemnmnjcdaaDoorRows.lean that lists a variable, with what it lists TIED to the program's text (the seventh form; the later family's looks); each row that meets fmt, with fmt's text TOLD by the authors' own Lean function (tested against real Go, not proved from fmt's source: count such statements apart). THE CARD IS WHAT COUNTS. Prove the row's statement (the work); the ties are given (YtbommemnmnjcdaaDoorTie.lean); close each card by the builder's one call (the guide's Derived/Test/ToyasCard.lean, 'card_holds'). Laid BY PROGRAM, IN A SANDBOX (cutbox-door.mjs). By AI agents, Wed Nov 11 2026. No macro, syntax, notation, axiom, sorry.
-/
import Derived.Test.YtbommemnmnjcdaaDoorRows
import GoSem.ClaimSeven
namespace Go.Proofs.YtbommemnmnjcdaaDoor
namespace Rows

/-- THE TIED CARD OF 'epactlaw03.DayBack'. -/
def dayBackCard : Claim7 := { stood := { row := dayBackRow, standIns := [], harness := (true, "aab54e129463f1fccfcc8ea3976fc841d03fa6602379b07928e5e06dfc356314"), looks := false }, kinds := [], alts := [], laidByText := true, laidKinds := [.data, .data], laidTests := true, laidLooks := .later }
def DayBackCardSaid : Prop := Claim7.holds Tryd.pinned (.plain (OpenSpec.ofChange dayBackSpec)) dayBackCard

/-- THE TIED CARD OF 'epactlaw03.DayNext'. -/
def dayNextCard : Claim7 := { stood := { row := dayNextRow, standIns := [], harness := (true, "aab54e129463f1fccfcc8ea3976fc841d03fa6602379b07928e5e06dfc356314"), looks := false }, kinds := [], alts := [], laidByText := true, laidKinds := [.data, .data], laidTests := true, laidLooks := .later }
def DayNextCardSaid : Prop := Claim7.holds Tryd.pinned (.plain (OpenSpec.ofChange dayNextSpec)) dayNextCard

/-- THE TIED CARD OF 'epactlaw03.DayOrder'. -/
def dayOrderCard : Claim7 := { stood := { row := dayOrderRow, standIns := [], harness := (true, "aab54e129463f1fccfcc8ea3976fc841d03fa6602379b07928e5e06dfc356314"), looks := false }, kinds := [], alts := [], laidByText := true, laidKinds := [.data, .data], laidTests := true, laidLooks := .later }
def DayOrderCardSaid : Prop := Claim7.holds Tryd.pinned (.plain (OpenSpec.ofChange dayOrderSpec)) dayOrderCard

/-- THE TIED CARD OF 'epactlaw03.DayYears'. -/
def dayYearsCard : Claim7 := { stood := { row := dayYearsRow, standIns := [], harness := (true, "aab54e129463f1fccfcc8ea3976fc841d03fa6602379b07928e5e06dfc356314"), looks := false }, kinds := [], alts := [], laidByText := true, laidKinds := [.data, .data], laidTests := true, laidLooks := .later }
def DayYearsCardSaid : Prop := Claim7.holds Tryd.pinned (.plain (OpenSpec.ofChange dayYearsSpec)) dayYearsCard

/-- THE SECOND FORM's CARD OF 'epactlaw03.DayBack'. -/
def dayBackUptoCard : Claim7 := { stood := { row := dayBackUptoRow, standIns := [], harness := (true, "aab54e129463f1fccfcc8ea3976fc841d03fa6602379b07928e5e06dfc356314"), looks := false }, kinds := [], alts := [], laidByText := true, laidKinds := [.data, .data], laidTests := true, laidLooks := .later }
def DayBackUptoCardSaid : Prop := Claim7.holds Tryd.pinned (.plain (OpenSpec.upto dayBackSpec)) dayBackUptoCard

/-- THE SECOND FORM's CARD OF 'epactlaw03.DayNext'. -/
def dayNextUptoCard : Claim7 := { stood := { row := dayNextUptoRow, standIns := [], harness := (true, "aab54e129463f1fccfcc8ea3976fc841d03fa6602379b07928e5e06dfc356314"), looks := false }, kinds := [], alts := [], laidByText := true, laidKinds := [.data, .data], laidTests := true, laidLooks := .later }
def DayNextUptoCardSaid : Prop := Claim7.holds Tryd.pinned (.plain (OpenSpec.upto dayNextSpec)) dayNextUptoCard

/-- THE SECOND FORM's CARD OF 'epactlaw03.DayOrder'. -/
def dayOrderUptoCard : Claim7 := { stood := { row := dayOrderUptoRow, standIns := [], harness := (true, "aab54e129463f1fccfcc8ea3976fc841d03fa6602379b07928e5e06dfc356314"), looks := false }, kinds := [], alts := [], laidByText := true, laidKinds := [.data, .data], laidTests := true, laidLooks := .later }
def DayOrderUptoCardSaid : Prop := Claim7.holds Tryd.pinned (.plain (OpenSpec.upto dayOrderSpec)) dayOrderUptoCard

/-- THE SECOND FORM's CARD OF 'epactlaw03.DayYears'. -/
def dayYearsUptoCard : Claim7 := { stood := { row := dayYearsUptoRow, standIns := [], harness := (true, "aab54e129463f1fccfcc8ea3976fc841d03fa6602379b07928e5e06dfc356314"), looks := false }, kinds := [], alts := [], laidByText := true, laidKinds := [.data, .data], laidTests := true, laidLooks := .later }
def DayYearsUptoCardSaid : Prop := Claim7.holds Tryd.pinned (.plain (OpenSpec.upto dayYearsSpec)) dayYearsUptoCard
end Rows
end Go.Proofs.YtbommemnmnjcdaaDoor
