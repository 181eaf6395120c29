/-
  NARROWER THAN 'FOR EVERY INPUT', by the rows' own cells (each row's printed sentence says how): ShaTells: laid · ShaParts: laid · ShaHex: laid · ShaWords: laid.
  DERIVED. THE GIVEN ROWS OF THIS SEAT. 4 by the template 'for every input the law returns true; each argument reads behind the call as it read before'; 0 by the template 'total and deterministic' (their statements: YtbmhddkmggoicaaDoorTotals.lean).
  GIVEN WITH THE SEED: the statements are not yours to turn. If you find one false, say at which input.
  Laid BY PROGRAM, IN A SANDBOX (cutbox-rows.mjs): the forced cells as the released guide's own fill.sh prints them over the translation ff2ce946067f3a58… (all of the seat's roots in one cut). By AI agents, Wed Nov 11 2026. No macro, syntax, notation, axiom, sorry.
-/
import Derived.Test.YtbmhddkmggoicaaDoorChecked
import GoSem.Claim
import GoSem.ClaimJoined
import GoSem.ClaimMapViews
import Derived.JoinedTies
import Derived.KernelRfl
namespace Go.Proofs.YtbmhddkmggoicaaDoor
/- THE CELL 'sum', in the pinned program and in every row, IS THE sha256 OF THE DUMP (.gsa) THAT YtbmhddkmggoicaaDoorProg.lean LOADS. Nothing in Lean hashes anything: it is a label: what it is worth is what the hold of that sum in a sandbox is worth. -/
noncomputable def Tryd.pinned : Pinned := { name := "ytbmhddkmggoicaadoor", sum := "ff2ce946067f3a58712882e8f0950f192dfb9f34c0663d5b902d572d24546509", checked := Tryd.checked }
namespace Rows
def none {H : Type} : Left H := { results := [], args := [] }

/- WHAT THE LISTED PACKAGE-LEVEL VARIABLES READ AS WHEN THE CALL BEGINS. Each datum BY PROGRAM (the guide's laid-datum.mjs) off the statement by which the dump's own 'gosem.cut.vars' lays the variable. In a bare row this is a premise. The card (YtbmhddkmggoicaaDoorCards.lean) ties it to the program's text. -/
def laid_epact_sha_start {H : Type} : DataW H := .agg [.lit (.int .u32 1732584193), .lit (.int .u32 4023233417), .lit (.int .u32 2562383102), .lit (.int .u32 271733878), .lit (.int .u32 3285377520)]

/-- 'epactlaw06.ShaTells': WHATEVER THE INPUT: true; the input reads as it did. -/
def shaTellsSpec : ChangeSpec := { name := "shaTells", fn := fun _ => fun
  | [d1, d2] => { results := [.lit (.bool true)], args := [d1, d2] }
  | _ => none }
def shaTellsRow : OpenClaim := { program := "ytbmhddkmggoicaadoor", sum := "ff2ce946067f3a58712882e8f0950f192dfb9f34c0663d5b902d572d24546509", func := "epact/epactlaw06.ShaTells", spec := "shaTells", inPlace := ["internal/abi.NoEscape"], named := ["epact/sha.start"], apart := false, laid := [("epact/sha.start", laid_epact_sha_start)] }
def ShaTellsSaid : Prop := shaTellsRow.holds Tryd.pinned (OpenSpec.ofChange shaTellsSpec)

/-- ITS FALSE NEIGHBOUR: 'it returns false'. Refute it at one input. -/
def shaTellsWrong : ChangeSpec := { name := "shaTells", fn := fun _ => fun
  | [d1, d2] => { results := [.lit (.bool false)], args := [d1, d2] }
  | _ => none }
def ShaTellsWrongFalsely : Prop := shaTellsRow.holds Tryd.pinned (OpenSpec.ofChange shaTellsWrong)

/-- 'epactlaw06.ShaParts': WHATEVER THE INPUT: true; the input reads as it did. -/
def shaPartsSpec : ChangeSpec := { name := "shaParts", fn := fun _ => fun
  | [d] => { results := [.lit (.bool true)], args := [d] }
  | _ => none }
def shaPartsRow : OpenClaim := { program := "ytbmhddkmggoicaadoor", sum := "ff2ce946067f3a58712882e8f0950f192dfb9f34c0663d5b902d572d24546509", func := "epact/epactlaw06.ShaParts", spec := "shaParts", inPlace := ["internal/abi.NoEscape"], named := ["epact/sha.start"], apart := false, laid := [("epact/sha.start", laid_epact_sha_start)] }
def ShaPartsSaid : Prop := shaPartsRow.holds Tryd.pinned (OpenSpec.ofChange shaPartsSpec)

/-- ITS FALSE NEIGHBOUR: 'it returns false'. Refute it at one input. -/
def shaPartsWrong : ChangeSpec := { name := "shaParts", fn := fun _ => fun
  | [d] => { results := [.lit (.bool false)], args := [d] }
  | _ => none }
def ShaPartsWrongFalsely : Prop := shaPartsRow.holds Tryd.pinned (OpenSpec.ofChange shaPartsWrong)

/-- 'epactlaw06.ShaHex': WHATEVER THE INPUT: true; the input reads as it did. -/
def shaHexSpec : ChangeSpec := { name := "shaHex", fn := fun _ => fun
  | [d1, d2] => { results := [.lit (.bool true)], args := [d1, d2] }
  | _ => none }
def shaHexRow : OpenClaim := { program := "ytbmhddkmggoicaadoor", sum := "ff2ce946067f3a58712882e8f0950f192dfb9f34c0663d5b902d572d24546509", func := "epact/epactlaw06.ShaHex", spec := "shaHex", inPlace := ["internal/abi.NoEscape"], named := ["epact/sha.start"], apart := false, laid := [("epact/sha.start", laid_epact_sha_start)] }
def ShaHexSaid : Prop := shaHexRow.holds Tryd.pinned (OpenSpec.ofChange shaHexSpec)

/-- ITS FALSE NEIGHBOUR: 'it returns false'. Refute it at one input. -/
def shaHexWrong : ChangeSpec := { name := "shaHex", fn := fun _ => fun
  | [d1, d2] => { results := [.lit (.bool false)], args := [d1, d2] }
  | _ => none }
def ShaHexWrongFalsely : Prop := shaHexRow.holds Tryd.pinned (OpenSpec.ofChange shaHexWrong)

/-- 'epactlaw06.ShaWords': WHATEVER THE INPUT: true; the input reads as it did. -/
def shaWordsSpec : ChangeSpec := { name := "shaWords", fn := fun _ => fun
  | [d] => { results := [.lit (.bool true)], args := [d] }
  | _ => none }
def shaWordsRow : OpenClaim := { program := "ytbmhddkmggoicaadoor", sum := "ff2ce946067f3a58712882e8f0950f192dfb9f34c0663d5b902d572d24546509", func := "epact/epactlaw06.ShaWords", spec := "shaWords", inPlace := ["internal/abi.NoEscape"], named := ["epact/sha.start"], apart := false, laid := [("epact/sha.start", laid_epact_sha_start)] }
def ShaWordsSaid : Prop := shaWordsRow.holds Tryd.pinned (OpenSpec.ofChange shaWordsSpec)

/-- ITS FALSE NEIGHBOUR: 'it returns false'. Refute it at one input. -/
def shaWordsWrong : ChangeSpec := { name := "shaWords", fn := fun _ => fun
  | [d] => { results := [.lit (.bool false)], args := [d] }
  | _ => none }
def ShaWordsWrongFalsely : Prop := shaWordsRow.holds Tryd.pinned (OpenSpec.ofChange shaWordsWrong)

/- THE SECOND FORM. 'bulk': how many values and letters a reading holds, each counted each time it is reached (what is shared counts as often as it is met; a slice's spare places count too). A statement '..UptoSaid' is the law's where the arguments, and the package variables that the reading takes, are together of bulk at most 1048576: NARROWER than '..Said'. Prove '..Said' where nothing that the law and all that it calls make is longer than what came in: it says more and counts as full. Else prove '..UptoSaid'. A law counts once. -/
mutual
def uptoBulk {H : Type} : DataW H → Nat
  | .lit (.string bytes) => bytes.length + 1
  | .lit _ => 1
  | .nil => 1
  | .ptr d => uptoBulk d + 1
  | .slice elems spare => uptoBulkAll elems + uptoBulkAll spare + 1
  | .agg parts => uptoBulkAll parts + 1
  | .iface _ d => uptoBulk d + 1
  | .map entries => uptoBulkEntries entries + 1
  | .held _ => 1
def uptoBulkAll {H : Type} : List (DataW H) → Nat
  | [] => 0
  | d :: r => uptoBulk d + uptoBulkAll r
def uptoBulkEntries {H : Type} : List (Lit × DataW H) → Nat
  | [] => 0
  | x :: r => uptoBulkEntry x + uptoBulkEntries r
def uptoBulkEntry {H : Type} : Lit × DataW H → Nat
  | (.string bytes, d) => bytes.length + uptoBulk d + 1
  | (_, d) => uptoBulk d + 1
 end
def uptoSmall : (H : Type) → List (DataW H) → Bool := fun _ ds => decide (uptoBulkAll ds ≤ 1048576)
def OpenSpec.upto (s : _root_.Go.ChangeSpec) : _root_.Go.OpenSpec := { _root_.Go.OpenSpec.ofChange s with cond := some uptoSmall }

/-- 'epactlaw06.ShaTells', WHERE WHAT IT READS IS OF BULK AT MOST 1048576: true; the input reads as it did. -/
def shaTellsUptoRow : OpenClaim := { program := "ytbmhddkmggoicaadoor", sum := "ff2ce946067f3a58712882e8f0950f192dfb9f34c0663d5b902d572d24546509", func := "epact/epactlaw06.ShaTells", spec := "shaTells", inPlace := ["internal/abi.NoEscape"], named := ["epact/sha.start"], apart := false, laid := [("epact/sha.start", laid_epact_sha_start)], narrowed := true }
def ShaTellsUptoSaid : Prop := shaTellsUptoRow.holds Tryd.pinned (OpenSpec.upto shaTellsSpec)

/-- 'epactlaw06.ShaParts', WHERE WHAT IT READS IS OF BULK AT MOST 1048576: true; the input reads as it did. -/
def shaPartsUptoRow : OpenClaim := { program := "ytbmhddkmggoicaadoor", sum := "ff2ce946067f3a58712882e8f0950f192dfb9f34c0663d5b902d572d24546509", func := "epact/epactlaw06.ShaParts", spec := "shaParts", inPlace := ["internal/abi.NoEscape"], named := ["epact/sha.start"], apart := false, laid := [("epact/sha.start", laid_epact_sha_start)], narrowed := true }
def ShaPartsUptoSaid : Prop := shaPartsUptoRow.holds Tryd.pinned (OpenSpec.upto shaPartsSpec)

/-- 'epactlaw06.ShaHex', WHERE WHAT IT READS IS OF BULK AT MOST 1048576: true; the input reads as it did. -/
def shaHexUptoRow : OpenClaim := { program := "ytbmhddkmggoicaadoor", sum := "ff2ce946067f3a58712882e8f0950f192dfb9f34c0663d5b902d572d24546509", func := "epact/epactlaw06.ShaHex", spec := "shaHex", inPlace := ["internal/abi.NoEscape"], named := ["epact/sha.start"], apart := false, laid := [("epact/sha.start", laid_epact_sha_start)], narrowed := true }
def ShaHexUptoSaid : Prop := shaHexUptoRow.holds Tryd.pinned (OpenSpec.upto shaHexSpec)

/-- 'epactlaw06.ShaWords', WHERE WHAT IT READS IS OF BULK AT MOST 1048576: true; the input reads as it did. -/
def shaWordsUptoRow : OpenClaim := { program := "ytbmhddkmggoicaadoor", sum := "ff2ce946067f3a58712882e8f0950f192dfb9f34c0663d5b902d572d24546509", func := "epact/epactlaw06.ShaWords", spec := "shaWords", inPlace := ["internal/abi.NoEscape"], named := ["epact/sha.start"], apart := false, laid := [("epact/sha.start", laid_epact_sha_start)], narrowed := true }
def ShaWordsUptoSaid : Prop := shaWordsUptoRow.holds Tryd.pinned (OpenSpec.upto shaWordsSpec)

end Rows
end Go.Proofs.YtbmhddkmggoicaaDoor
