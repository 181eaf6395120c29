/-
  NARROWER THAN 'FOR EVERY INPUT', by the rows' own cells (each row's printed sentence says how): LeapTells: laid · LeapTotals: laid · LeapFinds: laid · LeapParts: laid · LeapAdds: laid · LeapLengths: laid.
  DERIVED. THE GIVEN ROWS OF THIS SEAT. 6 by the template 'for every input the law returns true; each argument reads behind the call as it read before'; 0 by the template 'total and deterministic' (their statements: YtefnlnehdogiaaaDoorTotals.lean).
  GIVEN WITH THE SEED: the statements are not yours to turn. If you find one false, say at which input.
  Laid BY PROGRAM, IN A SANDBOX (cutbox-rows.mjs): the forced cells as the released guide's own fill.sh prints them over the translation 21925e6665b3bb94… (all of the seat's roots in one cut). By AI agents, Wed Nov 11 2026. No macro, syntax, notation, axiom, sorry.
-/
import Derived.Test.YtefnlnehdogiaaaDoorChecked
import GoSem.Claim
import GoSem.ClaimJoined
import GoSem.ClaimMapViews
import Derived.JoinedTies
import Derived.KernelRfl
namespace Go.Proofs.YtefnlnehdogiaaaDoor
/- THE CELL 'sum', in the pinned program and in every row, IS THE sha256 OF THE DUMP (.gsa) THAT YtefnlnehdogiaaaDoorProg.lean LOADS. Nothing in Lean hashes anything: it is a label: what it is worth is what the hold of that sum in a sandbox is worth. -/
noncomputable def Tryd.pinned : Pinned := { name := "ytefnlnehdogiaaadoor", sum := "21925e6665b3bb948c263bafa2dad058be1454d07c05d78e5c1b3283a82c516b", checked := Tryd.checked }
namespace Rows
def none {H : Type} : Left H := { results := [], args := [] }

/- WHAT THE LISTED PACKAGE-LEVEL VARIABLES READ AS WHEN THE CALL BEGINS. Each datum BY PROGRAM (the guide's laid-datum.mjs) off the statement by which the dump's own 'gosem.cut.vars' lays the variable. In a bare row this is a premise. The card (YtefnlnehdogiaaaDoorCards.lean) ties it to the program's text. -/
def laid_epact_day_lengths {H : Type} : DataW H := .agg [.lit (.int .i64 31), .lit (.int .i64 28), .lit (.int .i64 31), .lit (.int .i64 30), .lit (.int .i64 31), .lit (.int .i64 30), .lit (.int .i64 31), .lit (.int .i64 31), .lit (.int .i64 30), .lit (.int .i64 31), .lit (.int .i64 30), .lit (.int .i64 31)]
def laid_epact_day_spans {H : Type} : DataW H := .agg [.agg [.lit (.int .i64 400), .lit (.int .i64 146097), .lit (.int .i64 24)], .agg [.lit (.int .i64 100), .lit (.int .i64 36524), .lit (.int .i64 3)], .agg [.lit (.int .i64 4), .lit (.int .i64 1461), .lit (.int .i64 24)], .agg [.lit (.int .i64 1), .lit (.int .i64 365), .lit (.int .i64 3)]]

/-- 'epactlaw09.LeapTells': WHATEVER THE INPUT: true; the input reads as it did. -/
def leapTellsSpec : ChangeSpec := { name := "leapTells", fn := fun _ => fun
  | [d1, d2, d3, d4] => { results := [.lit (.bool true)], args := [d1, d2, d3, d4] }
  | _ => none }
def leapTellsRow : OpenClaim := { program := "ytefnlnehdogiaaadoor", sum := "21925e6665b3bb948c263bafa2dad058be1454d07c05d78e5c1b3283a82c516b", func := "epact/epactlaw09.LeapTells", spec := "leapTells", unfollowed := true, recurses := true, named := ["epact/day.spans", "epact/day.lengths"], apart := false, laid := [("epact/day.lengths", laid_epact_day_lengths), ("epact/day.spans", laid_epact_day_spans)] }
def LeapTellsSaid : Prop := leapTellsRow.holds Tryd.pinned (OpenSpec.ofChange leapTellsSpec)

/-- ITS FALSE NEIGHBOUR: 'it returns false'. Refute it at one input. -/
def leapTellsWrong : ChangeSpec := { name := "leapTells", fn := fun _ => fun
  | [d1, d2, d3, d4] => { results := [.lit (.bool false)], args := [d1, d2, d3, d4] }
  | _ => none }
def LeapTellsWrongFalsely : Prop := leapTellsRow.holds Tryd.pinned (OpenSpec.ofChange leapTellsWrong)

/-- 'epactlaw09.LeapTotals': WHATEVER THE INPUT: true; the input reads as it did. -/
def leapTotalsSpec : ChangeSpec := { name := "leapTotals", fn := fun _ => fun
  | [d1, d2] => { results := [.lit (.bool true)], args := [d1, d2] }
  | _ => none }
def leapTotalsRow : OpenClaim := { program := "ytefnlnehdogiaaadoor", sum := "21925e6665b3bb948c263bafa2dad058be1454d07c05d78e5c1b3283a82c516b", func := "epact/epactlaw09.LeapTotals", spec := "leapTotals", unfollowed := true, recurses := true, named := ["epact/day.spans", "epact/day.lengths"], apart := false, laid := [("epact/day.lengths", laid_epact_day_lengths), ("epact/day.spans", laid_epact_day_spans)] }
def LeapTotalsSaid : Prop := leapTotalsRow.holds Tryd.pinned (OpenSpec.ofChange leapTotalsSpec)

/-- ITS FALSE NEIGHBOUR: 'it returns false'. Refute it at one input. -/
def leapTotalsWrong : ChangeSpec := { name := "leapTotals", fn := fun _ => fun
  | [d1, d2] => { results := [.lit (.bool false)], args := [d1, d2] }
  | _ => none }
def LeapTotalsWrongFalsely : Prop := leapTotalsRow.holds Tryd.pinned (OpenSpec.ofChange leapTotalsWrong)

/-- 'epactlaw09.LeapFinds': WHATEVER THE INPUT: true; the input reads as it did. -/
def leapFindsSpec : ChangeSpec := { name := "leapFinds", fn := fun _ => fun
  | [d1, d2] => { results := [.lit (.bool true)], args := [d1, d2] }
  | _ => none }
def leapFindsRow : OpenClaim := { program := "ytefnlnehdogiaaadoor", sum := "21925e6665b3bb948c263bafa2dad058be1454d07c05d78e5c1b3283a82c516b", func := "epact/epactlaw09.LeapFinds", spec := "leapFinds", unfollowed := true, recurses := true, named := ["epact/day.spans", "epact/day.lengths"], apart := false, laid := [("epact/day.lengths", laid_epact_day_lengths), ("epact/day.spans", laid_epact_day_spans)] }
def LeapFindsSaid : Prop := leapFindsRow.holds Tryd.pinned (OpenSpec.ofChange leapFindsSpec)

/-- ITS FALSE NEIGHBOUR: 'it returns false'. Refute it at one input. -/
def leapFindsWrong : ChangeSpec := { name := "leapFinds", fn := fun _ => fun
  | [d1, d2] => { results := [.lit (.bool false)], args := [d1, d2] }
  | _ => none }
def LeapFindsWrongFalsely : Prop := leapFindsRow.holds Tryd.pinned (OpenSpec.ofChange leapFindsWrong)

/-- 'epactlaw09.LeapParts': WHATEVER THE INPUT: true; the input reads as it did. -/
def leapPartsSpec : ChangeSpec := { name := "leapParts", fn := fun _ => fun
  | [d1, d2] => { results := [.lit (.bool true)], args := [d1, d2] }
  | _ => none }
def leapPartsRow : OpenClaim := { program := "ytefnlnehdogiaaadoor", sum := "21925e6665b3bb948c263bafa2dad058be1454d07c05d78e5c1b3283a82c516b", func := "epact/epactlaw09.LeapParts", spec := "leapParts", unfollowed := true, recurses := true, named := ["epact/day.spans", "epact/day.lengths"], apart := false, laid := [("epact/day.lengths", laid_epact_day_lengths), ("epact/day.spans", laid_epact_day_spans)] }
def LeapPartsSaid : Prop := leapPartsRow.holds Tryd.pinned (OpenSpec.ofChange leapPartsSpec)

/-- ITS FALSE NEIGHBOUR: 'it returns false'. Refute it at one input. -/
def leapPartsWrong : ChangeSpec := { name := "leapParts", fn := fun _ => fun
  | [d1, d2] => { results := [.lit (.bool false)], args := [d1, d2] }
  | _ => none }
def LeapPartsWrongFalsely : Prop := leapPartsRow.holds Tryd.pinned (OpenSpec.ofChange leapPartsWrong)

/-- 'epactlaw09.LeapAdds': WHATEVER THE INPUT: true; the input reads as it did. -/
def leapAddsSpec : ChangeSpec := { name := "leapAdds", fn := fun _ => fun
  | [d1, d2, d3] => { results := [.lit (.bool true)], args := [d1, d2, d3] }
  | _ => none }
def leapAddsRow : OpenClaim := { program := "ytefnlnehdogiaaadoor", sum := "21925e6665b3bb948c263bafa2dad058be1454d07c05d78e5c1b3283a82c516b", func := "epact/epactlaw09.LeapAdds", spec := "leapAdds", unfollowed := true, recurses := true, named := ["epact/day.spans", "epact/day.lengths"], apart := false, laid := [("epact/day.lengths", laid_epact_day_lengths), ("epact/day.spans", laid_epact_day_spans)] }
def LeapAddsSaid : Prop := leapAddsRow.holds Tryd.pinned (OpenSpec.ofChange leapAddsSpec)

/-- ITS FALSE NEIGHBOUR: 'it returns false'. Refute it at one input. -/
def leapAddsWrong : ChangeSpec := { name := "leapAdds", fn := fun _ => fun
  | [d1, d2, d3] => { results := [.lit (.bool false)], args := [d1, d2, d3] }
  | _ => none }
def LeapAddsWrongFalsely : Prop := leapAddsRow.holds Tryd.pinned (OpenSpec.ofChange leapAddsWrong)

/-- 'epactlaw09.LeapLengths': WHATEVER THE INPUT: true; the input reads as it did. -/
def leapLengthsSpec : ChangeSpec := { name := "leapLengths", fn := fun _ => fun
  | [d1, d2] => { results := [.lit (.bool true)], args := [d1, d2] }
  | _ => none }
def leapLengthsRow : OpenClaim := { program := "ytefnlnehdogiaaadoor", sum := "21925e6665b3bb948c263bafa2dad058be1454d07c05d78e5c1b3283a82c516b", func := "epact/epactlaw09.LeapLengths", spec := "leapLengths", unfollowed := true, recurses := true, named := ["epact/day.spans", "epact/day.lengths"], apart := false, laid := [("epact/day.lengths", laid_epact_day_lengths), ("epact/day.spans", laid_epact_day_spans)] }
def LeapLengthsSaid : Prop := leapLengthsRow.holds Tryd.pinned (OpenSpec.ofChange leapLengthsSpec)

/-- ITS FALSE NEIGHBOUR: 'it returns false'. Refute it at one input. -/
def leapLengthsWrong : ChangeSpec := { name := "leapLengths", fn := fun _ => fun
  | [d1, d2] => { results := [.lit (.bool false)], args := [d1, d2] }
  | _ => none }
def LeapLengthsWrongFalsely : Prop := leapLengthsRow.holds Tryd.pinned (OpenSpec.ofChange leapLengthsWrong)

/- THE SECOND FORM. 'bulk': how many values and letters a reading holds, each counted each time it is reached (what is shared counts as often as it is met; a slice's spare places count too). A statement '..UptoSaid' is the law's where the arguments, and the package variables that the reading takes, are together of bulk at most 1048576: NARROWER than '..Said'. Prove '..Said' where nothing that the law and all that it calls make is longer than what came in: it says more and counts as full. Else prove '..UptoSaid'. A law counts once. -/
mutual
def uptoBulk {H : Type} : DataW H → Nat
  | .lit (.string bytes) => bytes.length + 1
  | .lit _ => 1
  | .nil => 1
  | .ptr d => uptoBulk d + 1
  | .slice elems spare => uptoBulkAll elems + uptoBulkAll spare + 1
  | .agg parts => uptoBulkAll parts + 1
  | .iface _ d => uptoBulk d + 1
  | .map entries => uptoBulkEntries entries + 1
  | .held _ => 1
def uptoBulkAll {H : Type} : List (DataW H) → Nat
  | [] => 0
  | d :: r => uptoBulk d + uptoBulkAll r
def uptoBulkEntries {H : Type} : List (Lit × DataW H) → Nat
  | [] => 0
  | x :: r => uptoBulkEntry x + uptoBulkEntries r
def uptoBulkEntry {H : Type} : Lit × DataW H → Nat
  | (.string bytes, d) => bytes.length + uptoBulk d + 1
  | (_, d) => uptoBulk d + 1
 end
def uptoSmall : (H : Type) → List (DataW H) → Bool := fun _ ds => decide (uptoBulkAll ds ≤ 1048576)
def OpenSpec.upto (s : _root_.Go.ChangeSpec) : _root_.Go.OpenSpec := { _root_.Go.OpenSpec.ofChange s with cond := some uptoSmall }

/-- 'epactlaw09.LeapTells', WHERE WHAT IT READS IS OF BULK AT MOST 1048576: true; the input reads as it did. -/
def leapTellsUptoRow : OpenClaim := { program := "ytefnlnehdogiaaadoor", sum := "21925e6665b3bb948c263bafa2dad058be1454d07c05d78e5c1b3283a82c516b", func := "epact/epactlaw09.LeapTells", spec := "leapTells", unfollowed := true, recurses := true, named := ["epact/day.spans", "epact/day.lengths"], apart := false, laid := [("epact/day.lengths", laid_epact_day_lengths), ("epact/day.spans", laid_epact_day_spans)], narrowed := true }
def LeapTellsUptoSaid : Prop := leapTellsUptoRow.holds Tryd.pinned (OpenSpec.upto leapTellsSpec)

/-- 'epactlaw09.LeapTotals', WHERE WHAT IT READS IS OF BULK AT MOST 1048576: true; the input reads as it did. -/
def leapTotalsUptoRow : OpenClaim := { program := "ytefnlnehdogiaaadoor", sum := "21925e6665b3bb948c263bafa2dad058be1454d07c05d78e5c1b3283a82c516b", func := "epact/epactlaw09.LeapTotals", spec := "leapTotals", unfollowed := true, recurses := true, named := ["epact/day.spans", "epact/day.lengths"], apart := false, laid := [("epact/day.lengths", laid_epact_day_lengths), ("epact/day.spans", laid_epact_day_spans)], narrowed := true }
def LeapTotalsUptoSaid : Prop := leapTotalsUptoRow.holds Tryd.pinned (OpenSpec.upto leapTotalsSpec)

/-- 'epactlaw09.LeapFinds', WHERE WHAT IT READS IS OF BULK AT MOST 1048576: true; the input reads as it did. -/
def leapFindsUptoRow : OpenClaim := { program := "ytefnlnehdogiaaadoor", sum := "21925e6665b3bb948c263bafa2dad058be1454d07c05d78e5c1b3283a82c516b", func := "epact/epactlaw09.LeapFinds", spec := "leapFinds", unfollowed := true, recurses := true, named := ["epact/day.spans", "epact/day.lengths"], apart := false, laid := [("epact/day.lengths", laid_epact_day_lengths), ("epact/day.spans", laid_epact_day_spans)], narrowed := true }
def LeapFindsUptoSaid : Prop := leapFindsUptoRow.holds Tryd.pinned (OpenSpec.upto leapFindsSpec)

/-- 'epactlaw09.LeapParts', WHERE WHAT IT READS IS OF BULK AT MOST 1048576: true; the input reads as it did. -/
def leapPartsUptoRow : OpenClaim := { program := "ytefnlnehdogiaaadoor", sum := "21925e6665b3bb948c263bafa2dad058be1454d07c05d78e5c1b3283a82c516b", func := "epact/epactlaw09.LeapParts", spec := "leapParts", unfollowed := true, recurses := true, named := ["epact/day.spans", "epact/day.lengths"], apart := false, laid := [("epact/day.lengths", laid_epact_day_lengths), ("epact/day.spans", laid_epact_day_spans)], narrowed := true }
def LeapPartsUptoSaid : Prop := leapPartsUptoRow.holds Tryd.pinned (OpenSpec.upto leapPartsSpec)

/-- 'epactlaw09.LeapAdds', WHERE WHAT IT READS IS OF BULK AT MOST 1048576: true; the input reads as it did. -/
def leapAddsUptoRow : OpenClaim := { program := "ytefnlnehdogiaaadoor", sum := "21925e6665b3bb948c263bafa2dad058be1454d07c05d78e5c1b3283a82c516b", func := "epact/epactlaw09.LeapAdds", spec := "leapAdds", unfollowed := true, recurses := true, named := ["epact/day.spans", "epact/day.lengths"], apart := false, laid := [("epact/day.lengths", laid_epact_day_lengths), ("epact/day.spans", laid_epact_day_spans)], narrowed := true }
def LeapAddsUptoSaid : Prop := leapAddsUptoRow.holds Tryd.pinned (OpenSpec.upto leapAddsSpec)

/-- 'epactlaw09.LeapLengths', WHERE WHAT IT READS IS OF BULK AT MOST 1048576: true; the input reads as it did. -/
def leapLengthsUptoRow : OpenClaim := { program := "ytefnlnehdogiaaadoor", sum := "21925e6665b3bb948c263bafa2dad058be1454d07c05d78e5c1b3283a82c516b", func := "epact/epactlaw09.LeapLengths", spec := "leapLengths", unfollowed := true, recurses := true, named := ["epact/day.spans", "epact/day.lengths"], apart := false, laid := [("epact/day.lengths", laid_epact_day_lengths), ("epact/day.spans", laid_epact_day_spans)], narrowed := true }
def LeapLengthsUptoSaid : Prop := leapLengthsUptoRow.holds Tryd.pinned (OpenSpec.upto leapLengthsSpec)

end Rows
end Go.Proofs.YtefnlnehdogiaaaDoor
