/-
  NARROWER THAN 'FOR EVERY INPUT', by the rows' own cells (each row's printed sentence says how): RecordTells: laid · RecordBack: laid · RecordSums: laid · RecordDays: laid · RecordEnds: laid · RecordParts: laid.
  DERIVED. THE GIVEN ROWS OF THIS SEAT. 6 by the template 'for every input the law returns true; each argument reads behind the call as it read before'; 0 by the template 'total and deterministic' (their statements: YtcikcdeihlmbcaaDoorTotals.lean).
  GIVEN WITH THE SEED: the statements are not yours to turn. If you find one false, say at which input.
  Laid BY PROGRAM, IN A SANDBOX (cutbox-rows.mjs): the forced cells as the released guide's own fill.sh prints them over the translation b6d32c916ad5b54c… (all of the seat's roots in one cut). By AI agents, Wed Nov 11 2026. No macro, syntax, notation, axiom, sorry.
-/
import Derived.Test.YtcikcdeihlmbcaaDoorChecked
import GoSem.Claim
import GoSem.ClaimJoined
import GoSem.ClaimMapViews
import Derived.JoinedTies
import Derived.KernelRfl
namespace Go.Proofs.YtcikcdeihlmbcaaDoor
/- THE CELL 'sum', in the pinned program and in every row, IS THE sha256 OF THE DUMP (.gsa) THAT YtcikcdeihlmbcaaDoorProg.lean LOADS. Nothing in Lean hashes anything: it is a label: what it is worth is what the hold of that sum in a sandbox is worth. -/
noncomputable def Tryd.pinned : Pinned := { name := "ytcikcdeihlmbcaadoor", sum := "b6d32c916ad5b54c3cb4ca8993c597a2b4776c2e893f1762fb8786364cc712ca", checked := Tryd.checked }
namespace Rows
def none {H : Type} : Left H := { results := [], args := [] }

/- WHAT THE LISTED PACKAGE-LEVEL VARIABLES READ AS WHEN THE CALL BEGINS. Each datum BY PROGRAM (the guide's laid-datum.mjs) off the statement by which the dump's own 'gosem.cut.vars' lays the variable. In a bare row this is a premise. The card (YtcikcdeihlmbcaaDoorCards.lean) ties it to the program's text. -/
def laid_epact_day_lengths {H : Type} : DataW H := .agg [.lit (.int .i64 31), .lit (.int .i64 28), .lit (.int .i64 31), .lit (.int .i64 30), .lit (.int .i64 31), .lit (.int .i64 30), .lit (.int .i64 31), .lit (.int .i64 31), .lit (.int .i64 30), .lit (.int .i64 31), .lit (.int .i64 30), .lit (.int .i64 31)]
def laid_epact_day_spans {H : Type} : DataW H := .agg [.agg [.lit (.int .i64 400), .lit (.int .i64 146097), .lit (.int .i64 24)], .agg [.lit (.int .i64 100), .lit (.int .i64 36524), .lit (.int .i64 3)], .agg [.lit (.int .i64 4), .lit (.int .i64 1461), .lit (.int .i64 24)], .agg [.lit (.int .i64 1), .lit (.int .i64 365), .lit (.int .i64 3)]]

/-- 'epactlaw12.RecordTells': WHATEVER THE INPUT: true; the input reads as it did. -/
def recordTellsSpec : ChangeSpec := { name := "recordTells", fn := fun _ => fun
  | [d1, d2, d3, d4] => { results := [.lit (.bool true)], args := [d1, d2, d3, d4] }
  | _ => none }
def recordTellsRow : OpenClaim := { program := "ytcikcdeihlmbcaadoor", sum := "b6d32c916ad5b54c3cb4ca8993c597a2b4776c2e893f1762fb8786364cc712ca", func := "epact/epactlaw12.RecordTells", spec := "recordTells", unfollowed := true, recurses := true, named := ["epact/day.spans", "epact/day.lengths"], apart := false, laid := [("epact/day.lengths", laid_epact_day_lengths), ("epact/day.spans", laid_epact_day_spans)] }
def RecordTellsSaid : Prop := recordTellsRow.holds Tryd.pinned (OpenSpec.ofChange recordTellsSpec)

/-- ITS FALSE NEIGHBOUR: 'it returns false'. Refute it at one input. -/
def recordTellsWrong : ChangeSpec := { name := "recordTells", fn := fun _ => fun
  | [d1, d2, d3, d4] => { results := [.lit (.bool false)], args := [d1, d2, d3, d4] }
  | _ => none }
def RecordTellsWrongFalsely : Prop := recordTellsRow.holds Tryd.pinned (OpenSpec.ofChange recordTellsWrong)

/-- 'epactlaw12.RecordBack': WHATEVER THE INPUT: true; the input reads as it did. -/
def recordBackSpec : ChangeSpec := { name := "recordBack", fn := fun _ => fun
  | [d1, d2] => { results := [.lit (.bool true)], args := [d1, d2] }
  | _ => none }
def recordBackRow : OpenClaim := { program := "ytcikcdeihlmbcaadoor", sum := "b6d32c916ad5b54c3cb4ca8993c597a2b4776c2e893f1762fb8786364cc712ca", func := "epact/epactlaw12.RecordBack", spec := "recordBack", unfollowed := true, recurses := true, named := ["epact/day.spans", "epact/day.lengths"], apart := false, laid := [("epact/day.lengths", laid_epact_day_lengths), ("epact/day.spans", laid_epact_day_spans)] }
def RecordBackSaid : Prop := recordBackRow.holds Tryd.pinned (OpenSpec.ofChange recordBackSpec)

/-- ITS FALSE NEIGHBOUR: 'it returns false'. Refute it at one input. -/
def recordBackWrong : ChangeSpec := { name := "recordBack", fn := fun _ => fun
  | [d1, d2] => { results := [.lit (.bool false)], args := [d1, d2] }
  | _ => none }
def RecordBackWrongFalsely : Prop := recordBackRow.holds Tryd.pinned (OpenSpec.ofChange recordBackWrong)

/-- 'epactlaw12.RecordSums': WHATEVER THE INPUT: true; the input reads as it did. -/
def recordSumsSpec : ChangeSpec := { name := "recordSums", fn := fun _ => fun
  | [d1, d2] => { results := [.lit (.bool true)], args := [d1, d2] }
  | _ => none }
def recordSumsRow : OpenClaim := { program := "ytcikcdeihlmbcaadoor", sum := "b6d32c916ad5b54c3cb4ca8993c597a2b4776c2e893f1762fb8786364cc712ca", func := "epact/epactlaw12.RecordSums", spec := "recordSums", unfollowed := true, recurses := true, named := ["epact/day.spans", "epact/day.lengths"], apart := false, laid := [("epact/day.lengths", laid_epact_day_lengths), ("epact/day.spans", laid_epact_day_spans)] }
def RecordSumsSaid : Prop := recordSumsRow.holds Tryd.pinned (OpenSpec.ofChange recordSumsSpec)

/-- ITS FALSE NEIGHBOUR: 'it returns false'. Refute it at one input. -/
def recordSumsWrong : ChangeSpec := { name := "recordSums", fn := fun _ => fun
  | [d1, d2] => { results := [.lit (.bool false)], args := [d1, d2] }
  | _ => none }
def RecordSumsWrongFalsely : Prop := recordSumsRow.holds Tryd.pinned (OpenSpec.ofChange recordSumsWrong)

/-- 'epactlaw12.RecordDays': WHATEVER THE INPUT: true; the input reads as it did. -/
def recordDaysSpec : ChangeSpec := { name := "recordDays", fn := fun _ => fun
  | [d1, d2] => { results := [.lit (.bool true)], args := [d1, d2] }
  | _ => none }
def recordDaysRow : OpenClaim := { program := "ytcikcdeihlmbcaadoor", sum := "b6d32c916ad5b54c3cb4ca8993c597a2b4776c2e893f1762fb8786364cc712ca", func := "epact/epactlaw12.RecordDays", spec := "recordDays", unfollowed := true, recurses := true, named := ["epact/day.spans", "epact/day.lengths"], apart := false, laid := [("epact/day.lengths", laid_epact_day_lengths), ("epact/day.spans", laid_epact_day_spans)] }
def RecordDaysSaid : Prop := recordDaysRow.holds Tryd.pinned (OpenSpec.ofChange recordDaysSpec)

/-- ITS FALSE NEIGHBOUR: 'it returns false'. Refute it at one input. -/
def recordDaysWrong : ChangeSpec := { name := "recordDays", fn := fun _ => fun
  | [d1, d2] => { results := [.lit (.bool false)], args := [d1, d2] }
  | _ => none }
def RecordDaysWrongFalsely : Prop := recordDaysRow.holds Tryd.pinned (OpenSpec.ofChange recordDaysWrong)

/-- 'epactlaw12.RecordEnds': WHATEVER THE INPUT: true; the input reads as it did. -/
def recordEndsSpec : ChangeSpec := { name := "recordEnds", fn := fun _ => fun
  | [d1, d2] => { results := [.lit (.bool true)], args := [d1, d2] }
  | _ => none }
def recordEndsRow : OpenClaim := { program := "ytcikcdeihlmbcaadoor", sum := "b6d32c916ad5b54c3cb4ca8993c597a2b4776c2e893f1762fb8786364cc712ca", func := "epact/epactlaw12.RecordEnds", spec := "recordEnds", unfollowed := true, recurses := true, named := ["epact/day.spans", "epact/day.lengths"], apart := false, laid := [("epact/day.lengths", laid_epact_day_lengths), ("epact/day.spans", laid_epact_day_spans)] }
def RecordEndsSaid : Prop := recordEndsRow.holds Tryd.pinned (OpenSpec.ofChange recordEndsSpec)

/-- ITS FALSE NEIGHBOUR: 'it returns false'. Refute it at one input. -/
def recordEndsWrong : ChangeSpec := { name := "recordEnds", fn := fun _ => fun
  | [d1, d2] => { results := [.lit (.bool false)], args := [d1, d2] }
  | _ => none }
def RecordEndsWrongFalsely : Prop := recordEndsRow.holds Tryd.pinned (OpenSpec.ofChange recordEndsWrong)

/-- 'epactlaw12.RecordParts': WHATEVER THE INPUT: true; the input reads as it did. -/
def recordPartsSpec : ChangeSpec := { name := "recordParts", fn := fun _ => fun
  | [d1, d2] => { results := [.lit (.bool true)], args := [d1, d2] }
  | _ => none }
def recordPartsRow : OpenClaim := { program := "ytcikcdeihlmbcaadoor", sum := "b6d32c916ad5b54c3cb4ca8993c597a2b4776c2e893f1762fb8786364cc712ca", func := "epact/epactlaw12.RecordParts", spec := "recordParts", unfollowed := true, recurses := true, named := ["epact/day.spans", "epact/day.lengths"], apart := false, laid := [("epact/day.lengths", laid_epact_day_lengths), ("epact/day.spans", laid_epact_day_spans)] }
def RecordPartsSaid : Prop := recordPartsRow.holds Tryd.pinned (OpenSpec.ofChange recordPartsSpec)

/-- ITS FALSE NEIGHBOUR: 'it returns false'. Refute it at one input. -/
def recordPartsWrong : ChangeSpec := { name := "recordParts", fn := fun _ => fun
  | [d1, d2] => { results := [.lit (.bool false)], args := [d1, d2] }
  | _ => none }
def RecordPartsWrongFalsely : Prop := recordPartsRow.holds Tryd.pinned (OpenSpec.ofChange recordPartsWrong)

/- THE SECOND FORM. 'bulk': how many values and letters a reading holds, each counted each time it is reached (what is shared counts as often as it is met; a slice's spare places count too). A statement '..UptoSaid' is the law's where the arguments, and the package variables that the reading takes, are together of bulk at most 1048576: NARROWER than '..Said'. Prove '..Said' where nothing that the law and all that it calls make is longer than what came in: it says more and counts as full. Else prove '..UptoSaid'. A law counts once. -/
mutual
def uptoBulk {H : Type} : DataW H → Nat
  | .lit (.string bytes) => bytes.length + 1
  | .lit _ => 1
  | .nil => 1
  | .ptr d => uptoBulk d + 1
  | .slice elems spare => uptoBulkAll elems + uptoBulkAll spare + 1
  | .agg parts => uptoBulkAll parts + 1
  | .iface _ d => uptoBulk d + 1
  | .map entries => uptoBulkEntries entries + 1
  | .held _ => 1
def uptoBulkAll {H : Type} : List (DataW H) → Nat
  | [] => 0
  | d :: r => uptoBulk d + uptoBulkAll r
def uptoBulkEntries {H : Type} : List (Lit × DataW H) → Nat
  | [] => 0
  | x :: r => uptoBulkEntry x + uptoBulkEntries r
def uptoBulkEntry {H : Type} : Lit × DataW H → Nat
  | (.string bytes, d) => bytes.length + uptoBulk d + 1
  | (_, d) => uptoBulk d + 1
 end
def uptoSmall : (H : Type) → List (DataW H) → Bool := fun _ ds => decide (uptoBulkAll ds ≤ 1048576)
def OpenSpec.upto (s : _root_.Go.ChangeSpec) : _root_.Go.OpenSpec := { _root_.Go.OpenSpec.ofChange s with cond := some uptoSmall }

/-- 'epactlaw12.RecordTells', WHERE WHAT IT READS IS OF BULK AT MOST 1048576: true; the input reads as it did. -/
def recordTellsUptoRow : OpenClaim := { program := "ytcikcdeihlmbcaadoor", sum := "b6d32c916ad5b54c3cb4ca8993c597a2b4776c2e893f1762fb8786364cc712ca", func := "epact/epactlaw12.RecordTells", spec := "recordTells", unfollowed := true, recurses := true, named := ["epact/day.spans", "epact/day.lengths"], apart := false, laid := [("epact/day.lengths", laid_epact_day_lengths), ("epact/day.spans", laid_epact_day_spans)], narrowed := true }
def RecordTellsUptoSaid : Prop := recordTellsUptoRow.holds Tryd.pinned (OpenSpec.upto recordTellsSpec)

/-- 'epactlaw12.RecordBack', WHERE WHAT IT READS IS OF BULK AT MOST 1048576: true; the input reads as it did. -/
def recordBackUptoRow : OpenClaim := { program := "ytcikcdeihlmbcaadoor", sum := "b6d32c916ad5b54c3cb4ca8993c597a2b4776c2e893f1762fb8786364cc712ca", func := "epact/epactlaw12.RecordBack", spec := "recordBack", unfollowed := true, recurses := true, named := ["epact/day.spans", "epact/day.lengths"], apart := false, laid := [("epact/day.lengths", laid_epact_day_lengths), ("epact/day.spans", laid_epact_day_spans)], narrowed := true }
def RecordBackUptoSaid : Prop := recordBackUptoRow.holds Tryd.pinned (OpenSpec.upto recordBackSpec)

/-- 'epactlaw12.RecordSums', WHERE WHAT IT READS IS OF BULK AT MOST 1048576: true; the input reads as it did. -/
def recordSumsUptoRow : OpenClaim := { program := "ytcikcdeihlmbcaadoor", sum := "b6d32c916ad5b54c3cb4ca8993c597a2b4776c2e893f1762fb8786364cc712ca", func := "epact/epactlaw12.RecordSums", spec := "recordSums", unfollowed := true, recurses := true, named := ["epact/day.spans", "epact/day.lengths"], apart := false, laid := [("epact/day.lengths", laid_epact_day_lengths), ("epact/day.spans", laid_epact_day_spans)], narrowed := true }
def RecordSumsUptoSaid : Prop := recordSumsUptoRow.holds Tryd.pinned (OpenSpec.upto recordSumsSpec)

/-- 'epactlaw12.RecordDays', WHERE WHAT IT READS IS OF BULK AT MOST 1048576: true; the input reads as it did. -/
def recordDaysUptoRow : OpenClaim := { program := "ytcikcdeihlmbcaadoor", sum := "b6d32c916ad5b54c3cb4ca8993c597a2b4776c2e893f1762fb8786364cc712ca", func := "epact/epactlaw12.RecordDays", spec := "recordDays", unfollowed := true, recurses := true, named := ["epact/day.spans", "epact/day.lengths"], apart := false, laid := [("epact/day.lengths", laid_epact_day_lengths), ("epact/day.spans", laid_epact_day_spans)], narrowed := true }
def RecordDaysUptoSaid : Prop := recordDaysUptoRow.holds Tryd.pinned (OpenSpec.upto recordDaysSpec)

/-- 'epactlaw12.RecordEnds', WHERE WHAT IT READS IS OF BULK AT MOST 1048576: true; the input reads as it did. -/
def recordEndsUptoRow : OpenClaim := { program := "ytcikcdeihlmbcaadoor", sum := "b6d32c916ad5b54c3cb4ca8993c597a2b4776c2e893f1762fb8786364cc712ca", func := "epact/epactlaw12.RecordEnds", spec := "recordEnds", unfollowed := true, recurses := true, named := ["epact/day.spans", "epact/day.lengths"], apart := false, laid := [("epact/day.lengths", laid_epact_day_lengths), ("epact/day.spans", laid_epact_day_spans)], narrowed := true }
def RecordEndsUptoSaid : Prop := recordEndsUptoRow.holds Tryd.pinned (OpenSpec.upto recordEndsSpec)

/-- 'epactlaw12.RecordParts', WHERE WHAT IT READS IS OF BULK AT MOST 1048576: true; the input reads as it did. -/
def recordPartsUptoRow : OpenClaim := { program := "ytcikcdeihlmbcaadoor", sum := "b6d32c916ad5b54c3cb4ca8993c597a2b4776c2e893f1762fb8786364cc712ca", func := "epact/epactlaw12.RecordParts", spec := "recordParts", unfollowed := true, recurses := true, named := ["epact/day.spans", "epact/day.lengths"], apart := false, laid := [("epact/day.lengths", laid_epact_day_lengths), ("epact/day.spans", laid_epact_day_spans)], narrowed := true }
def RecordPartsUptoSaid : Prop := recordPartsUptoRow.holds Tryd.pinned (OpenSpec.upto recordPartsSpec)

end Rows
end Go.Proofs.YtcikcdeihlmbcaaDoor
