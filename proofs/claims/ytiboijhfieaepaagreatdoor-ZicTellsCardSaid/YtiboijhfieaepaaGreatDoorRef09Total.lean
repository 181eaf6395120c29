/-
  The document's own answers of layer 9: Total, Step, Length. Conditions: the slice reads as the row; its leaps are right.
-/
import Derived.Test.YtiboijhfieaepaaGreatDoorRef09
namespace Go.Proofs.YtiboijhfieaepaaGreatDoor.ref09
open Go.ChangeShapes Go.WideShapes Go.ChangeAt Go.RowKit
open lm mem leap
set_option linter.unusedVariables false
set_option maxRecDepth 100000

/-- at the head of a round of Total. -/
def RTot (l : List Lp) (A : Option Addr) (c : Nat) (has : Bool) (x : Int) (f : Nat) (w : World) (s i : Value) (W : World) : Prop :=
  ∃ k : Nat, k ≤ f ∧ i = .int .i64 (k : Nat) ∧ s = .int .i64 (tot l k) ∧ Below w.heap.size w W ∧ W.heap[w.heap.size]? = some (.cells (tcs A l.length c has x) 24)
end Go.Proofs.YtiboijhfieaepaaGreatDoor.ref09
