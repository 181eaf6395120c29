/-
  NARROWER THAN 'FOR EVERY INPUT', by the rows' own cells (each row's printed sentence says how): DayBack: laid · DayNext: laid · DayOrder: laid · DayYears: laid.
  DERIVED. THE GIVEN ROWS OF THIS SEAT. 4 by the template 'for every input the law returns true; each argument reads behind the call as it read before'; 0 by the template 'total and deterministic' (their statements: YtbommemnmnjcdaaDoorTotals.lean).
  GIVEN WITH THE SEED: the statements are not yours to turn. If you find one false, say at which input.
  Laid BY PROGRAM, IN A SANDBOX (cutbox-rows.mjs): the forced cells as the released guide's own fill.sh prints them over the translation 7dbfcd6ad12e294a… (all of the seat's roots in one cut). By AI agents, Wed Nov 11 2026. No macro, syntax, notation, axiom, sorry.
-/
import Derived.Test.YtbommemnmnjcdaaDoorChecked
import GoSem.Claim
import GoSem.ClaimJoined
import GoSem.ClaimMapViews
import Derived.JoinedTies
import Derived.KernelRfl
namespace Go.Proofs.YtbommemnmnjcdaaDoor
/- THE CELL 'sum', in the pinned program and in every row, IS THE sha256 OF THE DUMP (.gsa) THAT YtbommemnmnjcdaaDoorProg.lean LOADS. Nothing in Lean hashes anything: it is a label: what it is worth is what the hold of that sum in a sandbox is worth. -/
noncomputable def Tryd.pinned : Pinned := { name := "ytbommemnmnjcdaadoor", sum := "7dbfcd6ad12e294a4ee587992fb65ce991dcb65ab69add950237575dec9eeadf", checked := Tryd.checked }
namespace Rows
def none {H : Type} : Left H := { results := [], args := [] }

/- WHAT THE LISTED PACKAGE-LEVEL VARIABLES READ AS WHEN THE CALL BEGINS. Each datum BY PROGRAM (the guide's laid-datum.mjs) off the statement by which the dump's own 'gosem.cut.vars' lays the variable. In a bare row this is a premise. The card (YtbommemnmnjcdaaDoorCards.lean) ties it to the program's text. -/
def laid_epact_day_lengths {H : Type} : DataW H := .agg [.lit (.int .i64 31), .lit (.int .i64 28), .lit (.int .i64 31), .lit (.int .i64 30), .lit (.int .i64 31), .lit (.int .i64 30), .lit (.int .i64 31), .lit (.int .i64 31), .lit (.int .i64 30), .lit (.int .i64 31), .lit (.int .i64 30), .lit (.int .i64 31)]
def laid_epact_day_spans {H : Type} : DataW H := .agg [.agg [.lit (.int .i64 400), .lit (.int .i64 146097), .lit (.int .i64 24)], .agg [.lit (.int .i64 100), .lit (.int .i64 36524), .lit (.int .i64 3)], .agg [.lit (.int .i64 4), .lit (.int .i64 1461), .lit (.int .i64 24)], .agg [.lit (.int .i64 1), .lit (.int .i64 365), .lit (.int .i64 3)]]

/-- 'epactlaw03.DayBack': WHATEVER THE INPUT: true; the input reads as it did. -/
def dayBackSpec : ChangeSpec := { name := "dayBack", fn := fun _ => fun
  | [d1, d2, d3, d4] => { results := [.lit (.bool true)], args := [d1, d2, d3, d4] }
  | _ => none }
def dayBackRow : OpenClaim := { program := "ytbommemnmnjcdaadoor", sum := "7dbfcd6ad12e294a4ee587992fb65ce991dcb65ab69add950237575dec9eeadf", func := "epact/epactlaw03.DayBack", spec := "dayBack", named := ["epact/day.lengths", "epact/day.spans"], apart := false, laid := [("epact/day.lengths", laid_epact_day_lengths), ("epact/day.spans", laid_epact_day_spans)] }
def DayBackSaid : Prop := dayBackRow.holds Tryd.pinned (OpenSpec.ofChange dayBackSpec)

/-- ITS FALSE NEIGHBOUR: 'it returns false'. Refute it at one input. -/
def dayBackWrong : ChangeSpec := { name := "dayBack", fn := fun _ => fun
  | [d1, d2, d3, d4] => { results := [.lit (.bool false)], args := [d1, d2, d3, d4] }
  | _ => none }
def DayBackWrongFalsely : Prop := dayBackRow.holds Tryd.pinned (OpenSpec.ofChange dayBackWrong)

/-- 'epactlaw03.DayNext': WHATEVER THE INPUT: true; the input reads as it did. -/
def dayNextSpec : ChangeSpec := { name := "dayNext", fn := fun _ => fun
  | [d] => { results := [.lit (.bool true)], args := [d] }
  | _ => none }
def dayNextRow : OpenClaim := { program := "ytbommemnmnjcdaadoor", sum := "7dbfcd6ad12e294a4ee587992fb65ce991dcb65ab69add950237575dec9eeadf", func := "epact/epactlaw03.DayNext", spec := "dayNext", named := ["epact/day.lengths", "epact/day.spans"], apart := false, laid := [("epact/day.lengths", laid_epact_day_lengths), ("epact/day.spans", laid_epact_day_spans)] }
def DayNextSaid : Prop := dayNextRow.holds Tryd.pinned (OpenSpec.ofChange dayNextSpec)

/-- ITS FALSE NEIGHBOUR: 'it returns false'. Refute it at one input. -/
def dayNextWrong : ChangeSpec := { name := "dayNext", fn := fun _ => fun
  | [d] => { results := [.lit (.bool false)], args := [d] }
  | _ => none }
def DayNextWrongFalsely : Prop := dayNextRow.holds Tryd.pinned (OpenSpec.ofChange dayNextWrong)

/-- 'epactlaw03.DayOrder': WHATEVER THE INPUT: true; the input reads as it did. -/
def dayOrderSpec : ChangeSpec := { name := "dayOrder", fn := fun _ => fun
  | [d1, d2, d3, d4, d5, d6] => { results := [.lit (.bool true)], args := [d1, d2, d3, d4, d5, d6] }
  | _ => none }
def dayOrderRow : OpenClaim := { program := "ytbommemnmnjcdaadoor", sum := "7dbfcd6ad12e294a4ee587992fb65ce991dcb65ab69add950237575dec9eeadf", func := "epact/epactlaw03.DayOrder", spec := "dayOrder", named := ["epact/day.lengths", "epact/day.spans"], apart := false, laid := [("epact/day.lengths", laid_epact_day_lengths), ("epact/day.spans", laid_epact_day_spans)] }
def DayOrderSaid : Prop := dayOrderRow.holds Tryd.pinned (OpenSpec.ofChange dayOrderSpec)

/-- ITS FALSE NEIGHBOUR: 'it returns false'. Refute it at one input. -/
def dayOrderWrong : ChangeSpec := { name := "dayOrder", fn := fun _ => fun
  | [d1, d2, d3, d4, d5, d6] => { results := [.lit (.bool false)], args := [d1, d2, d3, d4, d5, d6] }
  | _ => none }
def DayOrderWrongFalsely : Prop := dayOrderRow.holds Tryd.pinned (OpenSpec.ofChange dayOrderWrong)

/-- 'epactlaw03.DayYears': WHATEVER THE INPUT: true; the input reads as it did. -/
def dayYearsSpec : ChangeSpec := { name := "dayYears", fn := fun _ => fun
  | [d] => { results := [.lit (.bool true)], args := [d] }
  | _ => none }
def dayYearsRow : OpenClaim := { program := "ytbommemnmnjcdaadoor", sum := "7dbfcd6ad12e294a4ee587992fb65ce991dcb65ab69add950237575dec9eeadf", func := "epact/epactlaw03.DayYears", spec := "dayYears", named := ["epact/day.lengths", "epact/day.spans"], apart := false, laid := [("epact/day.lengths", laid_epact_day_lengths), ("epact/day.spans", laid_epact_day_spans)] }
def DayYearsSaid : Prop := dayYearsRow.holds Tryd.pinned (OpenSpec.ofChange dayYearsSpec)

/-- ITS FALSE NEIGHBOUR: 'it returns false'. Refute it at one input. -/
def dayYearsWrong : ChangeSpec := { name := "dayYears", fn := fun _ => fun
  | [d] => { results := [.lit (.bool false)], args := [d] }
  | _ => none }
def DayYearsWrongFalsely : Prop := dayYearsRow.holds Tryd.pinned (OpenSpec.ofChange dayYearsWrong)

/- THE SECOND FORM. 'bulk': how many values and letters a reading holds, each counted each time it is reached (what is shared counts as often as it is met; a slice's spare places count too). A statement '..UptoSaid' is the law's where the arguments, and the package variables that the reading takes, are together of bulk at most 1048576: NARROWER than '..Said'. Prove '..Said' where nothing that the law and all that it calls make is longer than what came in: it says more and counts as full. Else prove '..UptoSaid'. A law counts once. -/
mutual
def uptoBulk {H : Type} : DataW H → Nat
  | .lit (.string bytes) => bytes.length + 1
  | .lit _ => 1
  | .nil => 1
  | .ptr d => uptoBulk d + 1
  | .slice elems spare => uptoBulkAll elems + uptoBulkAll spare + 1
  | .agg parts => uptoBulkAll parts + 1
  | .iface _ d => uptoBulk d + 1
  | .map entries => uptoBulkEntries entries + 1
  | .held _ => 1
def uptoBulkAll {H : Type} : List (DataW H) → Nat
  | [] => 0
  | d :: r => uptoBulk d + uptoBulkAll r
def uptoBulkEntries {H : Type} : List (Lit × DataW H) → Nat
  | [] => 0
  | x :: r => uptoBulkEntry x + uptoBulkEntries r
def uptoBulkEntry {H : Type} : Lit × DataW H → Nat
  | (.string bytes, d) => bytes.length + uptoBulk d + 1
  | (_, d) => uptoBulk d + 1
 end
def uptoSmall : (H : Type) → List (DataW H) → Bool := fun _ ds => decide (uptoBulkAll ds ≤ 1048576)
def OpenSpec.upto (s : _root_.Go.ChangeSpec) : _root_.Go.OpenSpec := { _root_.Go.OpenSpec.ofChange s with cond := some uptoSmall }

/-- 'epactlaw03.DayBack', WHERE WHAT IT READS IS OF BULK AT MOST 1048576: true; the input reads as it did. -/
def dayBackUptoRow : OpenClaim := { program := "ytbommemnmnjcdaadoor", sum := "7dbfcd6ad12e294a4ee587992fb65ce991dcb65ab69add950237575dec9eeadf", func := "epact/epactlaw03.DayBack", spec := "dayBack", named := ["epact/day.lengths", "epact/day.spans"], apart := false, laid := [("epact/day.lengths", laid_epact_day_lengths), ("epact/day.spans", laid_epact_day_spans)], narrowed := true }
def DayBackUptoSaid : Prop := dayBackUptoRow.holds Tryd.pinned (OpenSpec.upto dayBackSpec)

/-- 'epactlaw03.DayNext', WHERE WHAT IT READS IS OF BULK AT MOST 1048576: true; the input reads as it did. -/
def dayNextUptoRow : OpenClaim := { program := "ytbommemnmnjcdaadoor", sum := "7dbfcd6ad12e294a4ee587992fb65ce991dcb65ab69add950237575dec9eeadf", func := "epact/epactlaw03.DayNext", spec := "dayNext", named := ["epact/day.lengths", "epact/day.spans"], apart := false, laid := [("epact/day.lengths", laid_epact_day_lengths), ("epact/day.spans", laid_epact_day_spans)], narrowed := true }
def DayNextUptoSaid : Prop := dayNextUptoRow.holds Tryd.pinned (OpenSpec.upto dayNextSpec)

/-- 'epactlaw03.DayOrder', WHERE WHAT IT READS IS OF BULK AT MOST 1048576: true; the input reads as it did. -/
def dayOrderUptoRow : OpenClaim := { program := "ytbommemnmnjcdaadoor", sum := "7dbfcd6ad12e294a4ee587992fb65ce991dcb65ab69add950237575dec9eeadf", func := "epact/epactlaw03.DayOrder", spec := "dayOrder", named := ["epact/day.lengths", "epact/day.spans"], apart := false, laid := [("epact/day.lengths", laid_epact_day_lengths), ("epact/day.spans", laid_epact_day_spans)], narrowed := true }
def DayOrderUptoSaid : Prop := dayOrderUptoRow.holds Tryd.pinned (OpenSpec.upto dayOrderSpec)

/-- 'epactlaw03.DayYears', WHERE WHAT IT READS IS OF BULK AT MOST 1048576: true; the input reads as it did. -/
def dayYearsUptoRow : OpenClaim := { program := "ytbommemnmnjcdaadoor", sum := "7dbfcd6ad12e294a4ee587992fb65ce991dcb65ab69add950237575dec9eeadf", func := "epact/epactlaw03.DayYears", spec := "dayYears", named := ["epact/day.lengths", "epact/day.spans"], apart := false, laid := [("epact/day.lengths", laid_epact_day_lengths), ("epact/day.spans", laid_epact_day_spans)], narrowed := true }
def DayYearsUptoSaid : Prop := dayYearsUptoRow.holds Tryd.pinned (OpenSpec.upto dayYearsSpec)

end Rows
end Go.Proofs.YtbommemnmnjcdaaDoor
