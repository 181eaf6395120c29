/-
  No cell of these rows narrows 'for every input' (looked for: loops, veiled, ifaces, maps, wideKeys, modest, calm, conditions, laid).
  DERIVED. THE GIVEN ROWS OF THIS SEAT. 6 by the template 'for every input the law returns true; each argument reads behind the call as it read before'; 0 by the template 'total and deterministic' (their statements: YtfebdpiefhaddaaTotals.lean).
  GIVEN WITH THE SEED: the statements are not yours to turn. If you find one false, say at which input.
  Laid BY PROGRAM, IN A SANDBOX (cutbox-rows.mjs): the forced cells as the released guide's own fill.sh prints them over the translation 7e966e9b37d41597… (all of the seat's roots in one cut). By AI agents, Wed Nov 11 2026. No macro, syntax, notation, axiom, sorry.
-/
import Derived.Test.YtfebdpiefhaddaaChecked
import GoSem.Claim
import GoSem.ClaimJoined
import GoSem.ClaimMapViews
import Derived.JoinedTies
import Derived.KernelRfl
namespace Go.Proofs.Ytfebdpiefhaddaa
/- THE CELL 'sum', in the pinned program and in every row, IS THE sha256 OF THE DUMP (.gsa) THAT YtfebdpiefhaddaaProg.lean LOADS. Nothing in Lean hashes anything: it is a label: what it is worth is what the hold of that sum in a sandbox is worth. -/
noncomputable def Try.pinned : Pinned := { name := "ytfebdpiefhaddaa", sum := "7e966e9b37d4159779ea26d5d4e75480c6c49f6e5abf0810ee7988bac604eba1", checked := Try.checked }
namespace Rows
def none {H : Type} : Left H := { results := [], args := [] }

/-- 'epactlaw02.WideTells': WHATEVER THE INPUT: true; the input reads as it did. -/
def wideTellsSpec : ChangeSpec := { name := "wideTells", fn := fun _ => fun
  | [d1, d2, d3, d4] => { results := [.lit (.bool true)], args := [d1, d2, d3, d4] }
  | _ => none }
def wideTellsRow : OpenClaim := { program := "ytfebdpiefhaddaa", sum := "7e966e9b37d4159779ea26d5d4e75480c6c49f6e5abf0810ee7988bac604eba1", func := "epact/epactlaw02.WideTells", spec := "wideTells", named := ["math/bits.divideError", "math/bits.overflowError"], apart := false }
def WideTellsSaid : Prop := wideTellsRow.holds Try.pinned (OpenSpec.ofChange wideTellsSpec)

/-- ITS FALSE NEIGHBOUR: 'it returns false'. Refute it at one input. -/
def wideTellsWrong : ChangeSpec := { name := "wideTells", fn := fun _ => fun
  | [d1, d2, d3, d4] => { results := [.lit (.bool false)], args := [d1, d2, d3, d4] }
  | _ => none }
def WideTellsWrongFalsely : Prop := wideTellsRow.holds Try.pinned (OpenSpec.ofChange wideTellsWrong)

/-- 'epactlaw02.WideBack': WHATEVER THE INPUT: true; the input reads as it did. -/
def wideBackSpec : ChangeSpec := { name := "wideBack", fn := fun _ => fun
  | [d1, d2, d3] => { results := [.lit (.bool true)], args := [d1, d2, d3] }
  | _ => none }
def wideBackRow : OpenClaim := { program := "ytfebdpiefhaddaa", sum := "7e966e9b37d4159779ea26d5d4e75480c6c49f6e5abf0810ee7988bac604eba1", func := "epact/epactlaw02.WideBack", spec := "wideBack", named := ["math/bits.divideError", "math/bits.overflowError"], apart := false }
def WideBackSaid : Prop := wideBackRow.holds Try.pinned (OpenSpec.ofChange wideBackSpec)

/-- ITS FALSE NEIGHBOUR: 'it returns false'. Refute it at one input. -/
def wideBackWrong : ChangeSpec := { name := "wideBack", fn := fun _ => fun
  | [d1, d2, d3] => { results := [.lit (.bool false)], args := [d1, d2, d3] }
  | _ => none }
def WideBackWrongFalsely : Prop := wideBackRow.holds Try.pinned (OpenSpec.ofChange wideBackWrong)

/-- 'epactlaw02.WideUp': WHATEVER THE INPUT: true; the input reads as it did. -/
def wideUpSpec : ChangeSpec := { name := "wideUp", fn := fun _ => fun
  | [d1, d2, d3] => { results := [.lit (.bool true)], args := [d1, d2, d3] }
  | _ => none }
def wideUpRow : OpenClaim := { program := "ytfebdpiefhaddaa", sum := "7e966e9b37d4159779ea26d5d4e75480c6c49f6e5abf0810ee7988bac604eba1", func := "epact/epactlaw02.WideUp", spec := "wideUp", named := ["math/bits.divideError", "math/bits.overflowError"], apart := false }
def WideUpSaid : Prop := wideUpRow.holds Try.pinned (OpenSpec.ofChange wideUpSpec)

/-- ITS FALSE NEIGHBOUR: 'it returns false'. Refute it at one input. -/
def wideUpWrong : ChangeSpec := { name := "wideUp", fn := fun _ => fun
  | [d1, d2, d3] => { results := [.lit (.bool false)], args := [d1, d2, d3] }
  | _ => none }
def WideUpWrongFalsely : Prop := wideUpRow.holds Try.pinned (OpenSpec.ofChange wideUpWrong)

/-- 'epactlaw02.WideOrder': WHATEVER THE INPUT: true; the input reads as it did. -/
def wideOrderSpec : ChangeSpec := { name := "wideOrder", fn := fun _ => fun
  | [d1, d2] => { results := [.lit (.bool true)], args := [d1, d2] }
  | _ => none }
def wideOrderRow : OpenClaim := { program := "ytfebdpiefhaddaa", sum := "7e966e9b37d4159779ea26d5d4e75480c6c49f6e5abf0810ee7988bac604eba1", func := "epact/epactlaw02.WideOrder", spec := "wideOrder", named := ["math/bits.divideError", "math/bits.overflowError"], apart := false }
def WideOrderSaid : Prop := wideOrderRow.holds Try.pinned (OpenSpec.ofChange wideOrderSpec)

/-- ITS FALSE NEIGHBOUR: 'it returns false'. Refute it at one input. -/
def wideOrderWrong : ChangeSpec := { name := "wideOrder", fn := fun _ => fun
  | [d1, d2] => { results := [.lit (.bool false)], args := [d1, d2] }
  | _ => none }
def WideOrderWrongFalsely : Prop := wideOrderRow.holds Try.pinned (OpenSpec.ofChange wideOrderWrong)

/-- 'epactlaw02.WideLess': WHATEVER THE INPUT: true; the input reads as it did. -/
def wideLessSpec : ChangeSpec := { name := "wideLess", fn := fun _ => fun
  | [d1, d2, d3, d4] => { results := [.lit (.bool true)], args := [d1, d2, d3, d4] }
  | _ => none }
def wideLessRow : OpenClaim := { program := "ytfebdpiefhaddaa", sum := "7e966e9b37d4159779ea26d5d4e75480c6c49f6e5abf0810ee7988bac604eba1", func := "epact/epactlaw02.WideLess", spec := "wideLess", named := ["math/bits.divideError", "math/bits.overflowError"], apart := false }
def WideLessSaid : Prop := wideLessRow.holds Try.pinned (OpenSpec.ofChange wideLessSpec)

/-- ITS FALSE NEIGHBOUR: 'it returns false'. Refute it at one input. -/
def wideLessWrong : ChangeSpec := { name := "wideLess", fn := fun _ => fun
  | [d1, d2, d3, d4] => { results := [.lit (.bool false)], args := [d1, d2, d3, d4] }
  | _ => none }
def WideLessWrongFalsely : Prop := wideLessRow.holds Try.pinned (OpenSpec.ofChange wideLessWrong)

/-- 'epactlaw02.WideParts': WHATEVER THE INPUT: true; the input reads as it did. -/
def widePartsSpec : ChangeSpec := { name := "wideParts", fn := fun _ => fun
  | [d1, d2, d3, d4] => { results := [.lit (.bool true)], args := [d1, d2, d3, d4] }
  | _ => none }
def widePartsRow : OpenClaim := { program := "ytfebdpiefhaddaa", sum := "7e966e9b37d4159779ea26d5d4e75480c6c49f6e5abf0810ee7988bac604eba1", func := "epact/epactlaw02.WideParts", spec := "wideParts", named := ["math/bits.divideError", "math/bits.overflowError"], apart := false }
def WidePartsSaid : Prop := widePartsRow.holds Try.pinned (OpenSpec.ofChange widePartsSpec)

/-- ITS FALSE NEIGHBOUR: 'it returns false'. Refute it at one input. -/
def widePartsWrong : ChangeSpec := { name := "wideParts", fn := fun _ => fun
  | [d1, d2, d3, d4] => { results := [.lit (.bool false)], args := [d1, d2, d3, d4] }
  | _ => none }
def WidePartsWrongFalsely : Prop := widePartsRow.holds Try.pinned (OpenSpec.ofChange widePartsWrong)

/- THE SECOND FORM. 'bulk': how many values and letters a reading holds, each counted each time it is reached (what is shared counts as often as it is met; a slice's spare places count too). A statement '..UptoSaid' is the law's where the arguments, and the package variables that the reading takes, are together of bulk at most 1048576: NARROWER than '..Said'. Prove '..Said' where nothing that the law and all that it calls make is longer than what came in: it says more and counts as full. Else prove '..UptoSaid'. A law counts once. -/
mutual
def uptoBulk {H : Type} : DataW H → Nat
  | .lit (.string bytes) => bytes.length + 1
  | .lit _ => 1
  | .nil => 1
  | .ptr d => uptoBulk d + 1
  | .slice elems spare => uptoBulkAll elems + uptoBulkAll spare + 1
  | .agg parts => uptoBulkAll parts + 1
  | .iface _ d => uptoBulk d + 1
  | .map entries => uptoBulkEntries entries + 1
  | .held _ => 1
def uptoBulkAll {H : Type} : List (DataW H) → Nat
  | [] => 0
  | d :: r => uptoBulk d + uptoBulkAll r
def uptoBulkEntries {H : Type} : List (Lit × DataW H) → Nat
  | [] => 0
  | x :: r => uptoBulkEntry x + uptoBulkEntries r
def uptoBulkEntry {H : Type} : Lit × DataW H → Nat
  | (.string bytes, d) => bytes.length + uptoBulk d + 1
  | (_, d) => uptoBulk d + 1
 end
def uptoSmall : (H : Type) → List (DataW H) → Bool := fun _ ds => decide (uptoBulkAll ds ≤ 1048576)
def OpenSpec.upto (s : _root_.Go.ChangeSpec) : _root_.Go.OpenSpec := { _root_.Go.OpenSpec.ofChange s with cond := some uptoSmall }

/-- 'epactlaw02.WideTells', WHERE WHAT IT READS IS OF BULK AT MOST 1048576: true; the input reads as it did. -/
def wideTellsUptoRow : OpenClaim := { program := "ytfebdpiefhaddaa", sum := "7e966e9b37d4159779ea26d5d4e75480c6c49f6e5abf0810ee7988bac604eba1", func := "epact/epactlaw02.WideTells", spec := "wideTells", named := ["math/bits.divideError", "math/bits.overflowError"], apart := false, narrowed := true }
def WideTellsUptoSaid : Prop := wideTellsUptoRow.holds Try.pinned (OpenSpec.upto wideTellsSpec)

/-- 'epactlaw02.WideBack', WHERE WHAT IT READS IS OF BULK AT MOST 1048576: true; the input reads as it did. -/
def wideBackUptoRow : OpenClaim := { program := "ytfebdpiefhaddaa", sum := "7e966e9b37d4159779ea26d5d4e75480c6c49f6e5abf0810ee7988bac604eba1", func := "epact/epactlaw02.WideBack", spec := "wideBack", named := ["math/bits.divideError", "math/bits.overflowError"], apart := false, narrowed := true }
def WideBackUptoSaid : Prop := wideBackUptoRow.holds Try.pinned (OpenSpec.upto wideBackSpec)

/-- 'epactlaw02.WideUp', WHERE WHAT IT READS IS OF BULK AT MOST 1048576: true; the input reads as it did. -/
def wideUpUptoRow : OpenClaim := { program := "ytfebdpiefhaddaa", sum := "7e966e9b37d4159779ea26d5d4e75480c6c49f6e5abf0810ee7988bac604eba1", func := "epact/epactlaw02.WideUp", spec := "wideUp", named := ["math/bits.divideError", "math/bits.overflowError"], apart := false, narrowed := true }
def WideUpUptoSaid : Prop := wideUpUptoRow.holds Try.pinned (OpenSpec.upto wideUpSpec)

/-- 'epactlaw02.WideOrder', WHERE WHAT IT READS IS OF BULK AT MOST 1048576: true; the input reads as it did. -/
def wideOrderUptoRow : OpenClaim := { program := "ytfebdpiefhaddaa", sum := "7e966e9b37d4159779ea26d5d4e75480c6c49f6e5abf0810ee7988bac604eba1", func := "epact/epactlaw02.WideOrder", spec := "wideOrder", named := ["math/bits.divideError", "math/bits.overflowError"], apart := false, narrowed := true }
def WideOrderUptoSaid : Prop := wideOrderUptoRow.holds Try.pinned (OpenSpec.upto wideOrderSpec)

/-- 'epactlaw02.WideLess', WHERE WHAT IT READS IS OF BULK AT MOST 1048576: true; the input reads as it did. -/
def wideLessUptoRow : OpenClaim := { program := "ytfebdpiefhaddaa", sum := "7e966e9b37d4159779ea26d5d4e75480c6c49f6e5abf0810ee7988bac604eba1", func := "epact/epactlaw02.WideLess", spec := "wideLess", named := ["math/bits.divideError", "math/bits.overflowError"], apart := false, narrowed := true }
def WideLessUptoSaid : Prop := wideLessUptoRow.holds Try.pinned (OpenSpec.upto wideLessSpec)

/-- 'epactlaw02.WideParts', WHERE WHAT IT READS IS OF BULK AT MOST 1048576: true; the input reads as it did. -/
def widePartsUptoRow : OpenClaim := { program := "ytfebdpiefhaddaa", sum := "7e966e9b37d4159779ea26d5d4e75480c6c49f6e5abf0810ee7988bac604eba1", func := "epact/epactlaw02.WideParts", spec := "wideParts", named := ["math/bits.divideError", "math/bits.overflowError"], apart := false, narrowed := true }
def WidePartsUptoSaid : Prop := widePartsUptoRow.holds Try.pinned (OpenSpec.upto widePartsSpec)

end Rows
end Go.Proofs.Ytfebdpiefhaddaa
